import PyProof.Rows.All
import Wide.All
import OpenK.AllK
import Wide.FinOn
import PyProof.EqAt
import PyProof.EqKinds
import PyProof.TupleCall
import KE.BitLaws
import KE.KEqDeep
import PySem.Challenge.RW_ropecabins_k06_whole_plans
section
-- CHANGE: your row's module here, as the last of these rows
set_option Elab.async false
set_option linter.all false
set_option maxRecDepth 100000
/-! THE HAND LAYER, for ints, bools, texts, own classes, lists, tuples, dicts, comprehensions, walks over dicts, enumerate, zip, reversed, texts, calls, loops. Paste it whole ahead of your own text; what your proof does not reach may be deleted. -/
namespace L2
open PySem PySem.Spec PyProof.Rows

/-- a key: an int or a str -/
abbrev Key := Sum Int Str
def keyIs : Key → Value → Bool
  | .inl k, v => Value.isInt k v
  | .inr x, v => Value.isStrOf x v
def keyH (w : World) : Key → Int
  | .inl k => hashInt k
  | .inr x => hashStr w x
theorem keyIs_shape : ∀ {k : Key} {v : Value}, keyIs k v = true → (∃ i t, k = Sum.inl i ∧ v = Value.int i t) ∨ (∃ x t, k = Sum.inr x ∧ v = Value.str x t)
  | .inl i, v, h => by
    obtain ⟨t, e⟩ := Value.isInt_shape (k := i) (v := v) h
    exact .inl ⟨i, t, rfl, e⟩
  | .inr x, v, h => by
    obtain ⟨t, e⟩ := Value.isStrOf_shape (x := x) (v := v) h
    exact .inr ⟨x, t, rfl, e⟩
theorem keyIs_int (i : Int) (t : Tok) : keyIs (.inl i) (.int i t) = true := by simp [keyIs, Value.isInt]
theorem keyIs_str (x : Str) (t : Tok) : keyIs (.inr x) (.str x t) = true := by simp [keyIs, Value.isStrOf]
theorem key_ll (a b : Int) : decide ((Sum.inl a : Key) = Sum.inl b) = (a == b) := by
  by_cases e : a = b
  · subst e; simp
  · have h : ¬ (Sum.inl a : Key) = Sum.inl b := fun q => e (Sum.inl.inj q)
    rw [decide_eq_false h]
    exact (beq_eq_false_iff_ne.mpr e).symm
theorem key_rr (a b : Str) : decide ((Sum.inr a : Key) = Sum.inr b) = decide (a = b) := by
  by_cases e : a = b
  · subst e; simp
  · have h : ¬ (Sum.inr a : Key) = Sum.inr b := fun q => e (Sum.inr.inj q)
    rw [decide_eq_false h, decide_eq_false e]
theorem key_lr (a : Int) (b : Str) : decide ((Sum.inl a : Key) = Sum.inr b) = false := decide_eq_false (fun q => nomatch q)
theorem key_rl (a : Str) (b : Int) : decide ((Sum.inr a : Key) = Sum.inl b) = false := decide_eq_false (fun q => nomatch q)

def mixKind (prog : Program) (w : World) : PySem.KeyKind prog w Key where
  is := keyIs
  hash := keyH w
  inj := fun v a b ha hb => by
    rcases keyIs_shape ha with ⟨i, t, rfl, rfl⟩ | ⟨x, t, rfl, rfl⟩
    · rcases keyIs_shape hb with ⟨j, u, rfl, e⟩ | ⟨y, u, rfl, e⟩
      · injection e with e1 _; rw [e1]
      · exact nomatch e
    · rcases keyIs_shape hb with ⟨j, u, rfl, e⟩ | ⟨y, u, rfl, e⟩
      · exact nomatch e
      · injection e with e1 _; rw [e1]
  byValue := fun k v h => by
    rcases keyIs_shape h with ⟨i, t, rfl, rfl⟩ | ⟨x, t, rfl, rfl⟩ <;> rfl
  pyHash := fun hv h => by
    rcases keyIs_shape hv with ⟨i, t, rfl, rfl⟩ | ⟨x, t, rfl, rfl⟩
    · exact wpAny_pyHash_int h
    · exact wpAny_pyHash_str h
  eqBool := fun hu hv h => by
    rcases keyIs_shape hu with ⟨i, t, rfl, rfl⟩ | ⟨x, t, rfl, rfl⟩
    · rcases keyIs_shape hv with ⟨j, u, rfl, rfl⟩ | ⟨y, u, rfl, rfl⟩
      · rw [key_ll] at h; exact wpAny_eqBool_int h
      · rw [key_lr] at h; exact SeqAt.EqAt.int_str i t y u _ _ _ _ h
    · rcases keyIs_shape hv with ⟨j, u, rfl, rfl⟩ | ⟨y, u, rfl, rfl⟩
      · rw [key_rl] at h; exact SeqAt.EqAt.str_int x t j u _ _ _ _ h
      · rw [key_rr] at h; exact wpAny_eqBool_str h
  «strs» := fun k x t v h => by
    rcases keyIs_shape h with ⟨i, u, rfl, e⟩ | ⟨y, u, rfl, e⟩
    · exact nomatch e
    · injection e with e1 _
      subst e1
      cases v <;> rfl

theorem mixKind_int (prog : Program) (w : World) (i : Int) (t : Tok) : (mixKind prog w).is (.inl i) (.int i t) = true := keyIs_int i t
theorem mixKind_str (prog : Program) (w : World) (x : Str) (t : Tok) : (mixKind prog w).is (.inr x) (.str x t) = true := keyIs_str x t
end L2

namespace L2
open PySem PySem.Spec PyProof.Rows

/-- a value, without the heap -/
inductive V where
  | non | bl (b : Bool) | int (i : Int) | str (x : Str) | byt (b : Array UInt8) | flt (b : UInt64) | ref (a : Addr) | ty (n : String)
  deriving DecidableEq

def RelV : V → Value → Prop
  | .non, u => u = Value.none
  | .bl b, u => u = Value.bool b
  | .int i, u => ∃ t, u = Value.int i t
  | .str x, u => ∃ t, u = Value.str x t
  | .byt b, u => ∃ t, u = Value.bytes b t
  | .flt b, u => ∃ t, u = Value.float b t
  | .ref a, u => u = Value.ref a
  | .ty n, u => u = Value.type n

abbrev Vals : List V → List Value → Prop := Paired RelV
theorem Vals.length {xs : List V} {us : List Value} (r : Vals xs us) : xs.length = us.length := Paired.length r
theorem Vals.get : ∀ {xs : List V} {us : List Value} {i : Nat} {x : V}, Vals xs us → xs[i]? = some x → ∃ u, us[i]? = some u ∧ RelV x u
  | _, _, _, _, .nil, e => by simp at e
  | _, _, 0, _, .cons r _, e => by simp at e; subst e; exact ⟨_, rfl, r⟩
  | _, _, i + 1, x, .cons _ t, e => by
    obtain ⟨u, h1, h2⟩ := Vals.get (i := i) (x := x) t (by simpa using e)
    exact ⟨u, by simpa using h1, h2⟩
theorem Vals.set {x : V} {u : Value} (r : RelV x u) : ∀ {xs : List V} {us : List Value} (i : Nat), Vals xs us → Vals (xs.set i x) (us.set i u)
  | _, _, _, .nil => .nil
  | _, _, 0, .cons _ t => .cons r t
  | _, _, i + 1, .cons q t => .cons q (Vals.set r i t)
theorem Vals.append : ∀ {xs ys : List V} {us ws : List Value}, Vals xs us → Vals ys ws → Vals (xs ++ ys) (us ++ ws)
  | _, _, _, _, .nil, s => s
  | _, _, _, _, .cons r t, s => .cons r (Vals.append t s)
theorem Vals.take : ∀ {xs : List V} {us : List Value} (n : Nat), Vals xs us → Vals (xs.take n) (us.take n)
  | _, _, 0, _ => .nil
  | _, _, _ + 1, .nil => .nil
  | _, _, n + 1, .cons r t => .cons r (Vals.take n t)
theorem Vals.drop : ∀ {xs : List V} {us : List Value} (n : Nat), Vals xs us → Vals (xs.drop n) (us.drop n)
  | _, _, 0, r => r
  | _, _, _ + 1, .nil => .nil
  | _, _, n + 1, .cons _ t => Vals.drop n t

def RelO : Option V → Option Value → Prop
  | some v, some u => RelV v u
  | none, none => True
  | _, _ => False
def KV {κ : Type} : List (κ × V) → List (κ × Value) → Prop := Paired fun (p : κ × V) (q : κ × Value) => p.1 = q.1 ∧ RelV p.2 q.2

/-- a key of a dict (00_mix): an int or a text -/
def kV : Key → V
  | .inl i => .int i
  | .inr x => .str x

/-- what stands at a tracked address -/
inductive HO where
  /-- a list -/
  | lst (xs : List V)
  /-- a tuple (never changes) -/
  | tup (xs : List V)
  /-- a dict whose keys are ints and texts; one whose keys are tuples of ints and texts (the empty one is both) -/
  | dK (kvs : List (Key × V)) | dT (kvs : List (List Key × V))
  /-- a set of ints: its members, its size -/
  | set (S : Int → Bool) (n : Nat)
  /-- an instance of the class at C, its dict at dx, its attributes -/
  | ins (C dx : Addr) (fs : List (Str × V))
  /-- the dict of the instance at x -/
  | own (x : Addr)
  /-- the dict of an exception -/
  | xd (fs : List (Str × V))
  /-- a bound method, f of x -/
  | met (f x : Addr)
  /-- a range object lo, lo + 1, .. below hi -/
  | rng (lo hi : Int)
  /-- a thing that is known to the object (the script; a dict while a loop walks it): read, never written while it is so -/
  | frz (o : Obj) (u : HO)
  /-- a code object's table -/
  | tbl (ps : Array Value)
  /-- any other thing, by what is true of its one object (a def of one's own: SetO a S n := HO.ext fun h => ..) -/
  | ext (φ : Heap → Prop)

abbrev Hp := Addr → Option HO
def upd (H : Hp) (a : Addr) (o : HO) : Hp := fun b => if b = a then some o else H b
theorem upd_same {H : Hp} {a : Addr} {o : HO} : upd H a o a = some o := by unfold upd; rw [if_pos rfl]
theorem upd_ne {H : Hp} {a b : Addr} {o : HO} (h : b ≠ a) : upd H a o b = H b := by unfold upd; rw [if_neg h]
/-- two objects of different content stand apart -/
theorem ne_of {H : Hp} {a b : Addr} {o u : HO} (h : H a = some o) (h' : H b = some u) (d : o ≠ u) : a ≠ b := by
  intro e; subst e; rw [h] at h'; exact d (Option.some.inj h')
theorem ne_of_none {H : Hp} {a b : Addr} {o : HO} (h : H a = some o) (h' : H b = none) : a ≠ b := by
  intro e; subst e; rw [h] at h'; cases h'

section
variable (P : Program) (w : World)
def ObjOk (H : Hp) (h : Heap) (a : Addr) : HO → Prop
  | .lst xs => xs.length ≤ sizeLine ∧ ∃ (its : List Value) (n : Nat), Vals xs its ∧ h.get? a = some { cls := .type "list", data := .seq its.toArray n }
  | .tup xs => xs.length ≤ sizeLine ∧ ∃ its : List Value, Vals xs its ∧ IsTup h a its.toArray
  | .dK kvs => kvs.length ≤ sizeLine ∧ (a == sysModules) = false ∧ ∃ vs, KV kvs vs ∧ h.DictOf (mixKind P w) a vs
  | .dT kvs => kvs.length ≤ sizeLine ∧ (a == sysModules) = false ∧ ∃ xs : List (List Key × Addr × Value),
      Paired (fun (p : List Key × V) (q : List Key × Addr × Value) => p.1 = q.1 ∧ H q.2.1 = some (.tup (p.1.map kV)) ∧ RelV p.2 q.2.2) kvs xs ∧
      ∃ o es ep, h.get? a = some o ∧ o.ExactDict ∧ o.data = .dict es ep ∧ es.toList = xs.map (entryOfKey (tupleKind (mixKind P w))) ∧ (xs.map (·.1)).Nodup
  | .set S n => h.SetOf (intKind P w) a S n
  | .ins C dx fs => H dx = some (.own a) ∧ fs.length ≤ 1000 ∧ dx ≠ a ∧ h.get? a = some (PySem.W.instObj C dx) ∧
      ∃ mA, h.Ns1 dx mA ∧ (∀ f, RelO (fs.lookup f) (mA f)) ∧ PySem.Within mA (fs.map (·.1))
  | .own _ => ∃ o, h.get? a = some o
  | .xd fs => ∃ mA, h.Ns1 a mA ∧ ∀ f, RelO (fs.lookup f) (mA f)
  | .rng lo hi => ∃ t u v, h.get? a = some { cls := .type "range", data := .fields #[.int lo t, .int hi u, .int 1 v] }
  | .frz o u => h.get? a = some o ∧ ObjOk H h a u
  | .tbl ps => h.get? a = some { cls := .none, data := .fields ps }
  | .met f x => h.get? a = some (PySem.W.methodObj (.ref f) (.ref x))
  | .ext φ => φ h ∧ (∃ o, h.get? a = some o) ∧ ∀ h1 h2 : Heap, φ h1 → (∀ o, h1.get? a = some o → h2.get? a = some o) → φ h2
/-- the abstract heap is held -/
def HOk (H : Hp) (h : Heap) : Prop := ∀ a o, H a = some o → ObjOk P w H h a o
end

section
variable {P : Program} {w : World} {H H' : Hp} {h h' : Heap} {a : Addr} {o : HO}
theorem ObjOk.lt (x : ObjOk P w H h a o) : a < h.objs.size := by
  cases o with
  | lst xs => obtain ⟨_, _, _, _, e⟩ := x; exact Heap.lt_size e
  | tup xs => obtain ⟨_, _, _, p⟩ := x; exact p.lt
  | dK kvs => obtain ⟨_, _, _, _, o, _, _, e, _⟩ := x; exact Heap.lt_size e
  | dT kvs => obtain ⟨_, _, _, _, o, _, _, e, _⟩ := x; exact Heap.lt_size e
  | set S n => obtain ⟨o, _, _, _, e, _⟩ := x; exact Heap.lt_size e
  | ins C dx fs => obtain ⟨_, _, _, e, _⟩ := x; exact Heap.lt_size e
  | own y => obtain ⟨_, e⟩ := x; exact Heap.lt_size e
  | xd fs => obtain ⟨_, ⟨_, _, _, e, _⟩, _⟩ := x; exact Heap.lt_size e
  | rng lo hi => obtain ⟨_, _, _, e⟩ := x; exact Heap.lt_size e
  | frz ob u => obtain ⟨e, _⟩ := x; exact Heap.lt_size e
  | tbl ps => exact Heap.lt_size (show h.get? a = some _ from x)
  | met f y => exact Heap.lt_size (show h.get? a = some _ from x)
  | ext φ => obtain ⟨_, ⟨_, e⟩, _⟩ := x; exact Heap.lt_size e
theorem Paired.mapP {α β : Type} {F G : α → β → Prop} : ∀ {l₁ : List α} {l₂ : List β}, Paired F l₁ l₂ → (∀ a b, F a b → G a b) → Paired G l₁ l₂
  | _, _, .nil, _ => .nil
  | _, _, .cons r t, f => .cons (f _ _ r) (Paired.mapP t f)
theorem Paired.imp' {α β : Type} {F G : α → β → Prop} (f : ∀ a b, F a b → G a b) {l₁ : List α} {l₂ : List β} (r : Paired F l₁ l₂) : Paired G l₁ l₂ := Paired.mapP r f
/-- what an object's description leans on: its own object, its own dict, the tuples -/
theorem ObjOk.stay (x : ObjOk P w H h a o) (k : ∀ b u, (b = a ∨ H b = some (.own a)) → h.get? b = some u → h'.get? b = some u)
    (ho : ∀ b, H b = some (.own a) → H' b = some (.own a)) (ht : ∀ b xs, H b = some (.tup xs) → H' b = some (.tup xs)) : ObjOk P w H' h' a o := by
  induction o with
  | lst xs => obtain ⟨z, its, n, r, e⟩ := x; exact ⟨z, its, n, r, k _ _ (.inl rfl) e⟩
  | tup xs => obtain ⟨z, its, r, ob, e, c⟩ := x; exact ⟨z, its, r, ob, k _ _ (.inl rfl) e, c⟩
  | dK kvs => obtain ⟨z, y, vs, r, ob, es, ep, e, c⟩ := x; exact ⟨z, y, vs, r, ob, es, ep, k _ _ (.inl rfl) e, c⟩
  | dT kvs =>
    obtain ⟨z, y, xs, r, ob, es, ep, e, c⟩ := x
    exact ⟨z, y, xs, Paired.mapP r fun p q z => ⟨z.1, ht _ _ z.2.1, z.2.2⟩, ob, es, ep, k _ _ (.inl rfl) e, c⟩
  | set S n => obtain ⟨ob, es, ep, t, e, c⟩ := x; exact ⟨ob, es, ep, t, k _ _ (.inl rfl) e, c⟩
  | ins C dx fs =>
    obtain ⟨d, z, ne, e, mA, ⟨od, es, ep, e2, c⟩, r⟩ := x
    exact ⟨ho _ d, z, ne, k _ _ (.inl rfl) e, mA, ⟨od, es, ep, k _ _ (.inr d) e2, c⟩, r⟩
  | own y => obtain ⟨ob, e⟩ := x; exact ⟨ob, k _ _ (.inl rfl) e⟩
  | xd fs => obtain ⟨mA, ⟨od, es, ep, e, c⟩, r⟩ := x; exact ⟨mA, ⟨od, es, ep, k _ _ (.inl rfl) e, c⟩, r⟩
  | rng lo hi => obtain ⟨t, u, v, e⟩ := x; exact ⟨t, u, v, k _ _ (.inl rfl) e⟩
  | frz ob u ih => obtain ⟨e, q⟩ := x; exact ⟨k _ _ (.inl rfl) e, ih q⟩
  | tbl ps =>
    have e : h.get? a = some { cls := .none, data := .fields ps } := x
    show h'.get? a = some { cls := .none, data := .fields ps }
    exact k a _ (.inl rfl) e
  | met f y =>
    have e : h.get? a = some (PySem.W.methodObj (.ref f) (.ref y)) := x
    show h'.get? a = some (PySem.W.methodObj (.ref f) (.ref y))
    exact k a _ (.inl rfl) e
  | ext φ => obtain ⟨p, ⟨o, e⟩, st⟩ := x; exact ⟨st _ _ p fun o q => k _ _ (.inl rfl) q, ⟨o, k _ _ (.inl rfl) e⟩, st⟩
theorem HOk.lt (x : HOk P w H h) (e : H a = some o) : a < h.objs.size := (x a o e).lt
theorem HOk.fresh (x : HOk P w H h) (e : h.objs.size ≤ a) : H a = none := by
  cases q : H a with
  | none => rfl
  | some u => exact absurd (Nat.lt_of_lt_of_le (x.lt q) e) (Nat.lt_irrefl _)
/-- every object of the heap is kept -/
theorem HOk.kept (x : HOk P w H h) (k : ∀ b u, h.get? b = some u → h'.get? b = some u) : HOk P w H h' := fun a o e =>
  (x a o e).stay (fun b u _ q => k b u q) (fun _ q => q) fun _ _ q => q
/-- a new object is laid and tracked -/
theorem HOk.laid (x : HOk P w H h) (k : ∀ b u, h.get? b = some u → h'.get? b = some u) (hp : h.objs.size ≤ a) (new : ObjOk P w (upd H a o) h' a o) : HOk P w (upd H a o) h' := fun b u e => by
  have hn := x.fresh hp
  by_cases hb : b = a
  · subst hb; rw [upd_same] at e; cases e; exact new
  · rw [upd_ne hb] at e
    exact (x b u e).stay (fun c v _ q => k c v q) (fun c q => by rw [upd_ne (ne_of_none q hn)]; exact q) fun c xs q => by rw [upd_ne (ne_of_none q hn)]; exact q
end

/-- what may be read as u: it is u, or a known u -/
def Rd (H : Hp) (a : Addr) (u : HO) : Prop := H a = some u ∨ ∃ o, H a = some (.frz o u)
theorem Rd.ok {P : Program} {w : World} {H : Hp} {h : Heap} {a : Addr} {u : HO} (r : Rd H a u) (x : HOk P w H h) : ObjOk P w H h a u := by
  rcases r with r | ⟨o, r⟩
  · exact x a u r
  · obtain ⟨_, q⟩ := x a _ r
    exact q
/-- what may be written -/
def Mut : Option HO → Prop
  | some (.lst _) => True
  | some (.dK _) => True
  | some (.dT _) => True
  | some (.set _ _) => True
  | some (.ins _ _ _) => True
  | some (.ext _) => True
  | _ => False
section
variable {P : Program} {w : World} {H : Hp} {h h' : Heap} {x e : Addr} {o' : HO}
/-- the object at e is changed: x itself, or the dict of the instance x -/
theorem HOk.write (ok : HOk P w H h) (mu : Mut (H x)) (he : e = x ∨ H e = some (.own x)) (k : ∀ b u, b ≠ e → h.get? b = some u → h'.get? b = some u) (heo : ∃ u, h'.get? e = some u)
    (new : ObjOk P w (upd H x o') h' x o') : HOk P w (upd H x o') h' := fun b u q => by
  have nown : ∀ c y, H c = some (.own y) → c ≠ x := fun c y r z => by subst z; rw [r] at mu; exact mu
  have ntup : ∀ c xs, H c = some (.tup xs) → c ≠ x := fun c xs r z => by subst z; rw [r] at mu; exact mu
  by_cases hb : b = x
  · subst hb; rw [upd_same] at q; cases q; exact new
  · rw [upd_ne hb] at q
    by_cases hbe : b = e
    · have q' : H b = some (.own x) := by
        rcases he with z | z
        · exact absurd (hbe.trans z) hb
        · rw [hbe]; exact z
      rw [q] at q'; cases q'
      obtain ⟨v, hv⟩ := heo
      exact ⟨v, by rw [hbe]; exact hv⟩
    · refine (ok b u q).stay (fun c v hc r => k c v ?_ r) (fun c r => by rw [upd_ne (nown c b r)]; exact r) fun c xs r => by rw [upd_ne (ntup c xs r)]; exact r
      rcases hc with rfl | hc
      · exact hbe
      · rintro rfl
        rcases he with z | z
        · exact nown c b hc z
        · rw [hc] at z; cases z; exact hb rfl
end

/-! ### kept unless tracked; of the frames at fs (the callers') the slots may change (an exception that passes writes there); of the records at ex (iterators) nothing is said -/
structure Un (fs ex : List Addr) (H H' : Hp) (h h' : Heap) : Prop where
  keep : ∀ b o, h.get? b = some o → H b = none → b ∉ fs → b ∉ ex → h'.get? b = some o
  slot : ∀ b o, h.get? b = some o → H b = none → b ∈ fs → b ∉ ex → ∃ sl, h'.get? b = some { o with slots := sl }
  free : ∀ b o, h.get? b = some o → H b = none → b ∉ ex → H' b = none
  there : ∀ b o, h.get? b = some o → b ∉ ex → ∃ o', h'.get? b = some o'
  tups : ∀ b xs, H b = some (.tup xs) → H' b = some (.tup xs)
  frzs : ∀ b o u, H b = some (.frz o u) → H' b = some (.frz o u)
  tbls : ∀ b ps, H b = some (.tbl ps) → ∃ more, H' b = some (.tbl (ps ++ more))
section
variable {fs fs' ex ex' : List Addr} {H H1 H2 : Hp} {h h1 h2 h' : Heap} {a x e : Addr} {o : HO}
theorem Un.any (u : Un fs ex H H1 h h1) {b : Addr} {ob : Obj} (q : h.get? b = some ob) (n : H b = none) (hx : b ∉ ex) : ∃ sl, h1.get? b = some { ob with slots := sl } := by
  by_cases hb : b ∈ fs
  · exact u.slot b ob q n hb hx
  · exact ⟨ob.slots, u.keep b ob q n hb hx⟩
theorem Un.kept (k : ∀ b u, h.get? b = some u → h'.get? b = some u) : Un fs ex H H h h' :=
  ⟨fun b ob q _ _ _ => k b ob q, fun b ob q _ _ _ => ⟨ob.slots, k b ob q⟩, fun _ _ _ n _ => n, fun b ob q _ => ⟨ob, k b ob q⟩, fun _ _ q => q, fun _ _ _ q => q, fun _ ps q => ⟨#[], by rw [q]; simp⟩⟩
theorem Un.refl : Un fs ex H H h h := Un.kept fun _ _ q => q
theorem Un.laid (k : ∀ b u, h.get? b = some u → h'.get? b = some u) (hp : h.objs.size ≤ a) (hn : H a = none) : Un fs ex H (upd H a o) h h' where
  keep := fun b u q _ _ _ => k b u q
  slot := fun b u q _ _ _ => ⟨u.slots, k b u q⟩
  free := fun b u q n _ => by rw [upd_ne (Nat.ne_of_lt (Nat.lt_of_lt_of_le (Heap.lt_size q) hp))]; exact n
  there := fun b u q _ => ⟨u, k b u q⟩
  tups := fun b xs q => by rw [upd_ne (ne_of_none q hn)]; exact q
  frzs := fun b u xs q => by rw [upd_ne (ne_of_none q hn)]; exact q
  tbls := fun b ps q => ⟨#[], by rw [upd_ne (ne_of_none q hn), q]; simp⟩
theorem Un.write (mu : Mut (H x)) (he : e = x ∨ H e = some (.own x)) (k : ∀ b u, b ≠ e → h.get? b = some u → h'.get? b = some u) (heo : ∃ u, h'.get? e = some u) : Un fs ex H (upd H x o) h h' := by
  have hx : ∀ b, H b = none → b ≠ x := fun b n z => by subst z; rw [n] at mu; exact mu
  have hb : ∀ b, H b = none → b ≠ e := fun b n z => by
    subst z
    rcases he with r | r
    · exact hx b n r
    · rw [n] at r; cases r
  have hm : ∀ b u, H b = some u → ¬ Mut (some u) → b ≠ x := fun b u q nm z => by subst z; rw [q] at mu; exact nm mu
  refine ⟨fun b u q n _ _ => k b u (hb b n) q, fun b u q n _ _ => ⟨u.slots, k b u (hb b n) q⟩, fun b u q n _ => by rw [upd_ne (hx b n)]; exact n, fun b u q _ => ?_,
    fun b xs q => by rw [upd_ne (hm b _ q fun z => z)]; exact q, fun b u xs q => by rw [upd_ne (hm b _ q fun z => z)]; exact q, fun b ps q => ⟨#[], by rw [upd_ne (hm b _ q fun z => z), q]; simp⟩⟩
  by_cases hbe : b = e
  · subst hbe; exact heo
  · exact ⟨u, k b u hbe q⟩
end

/-! ### the heap without what is tracked -/
def trk (h : Heap) (H : Hp) : List Addr := (List.range h.objs.size).filter fun a => (H a).isSome
def hidT (h : Heap) (H : Hp) : Heap := PySem.W.hideAll h (trk h H)
theorem hidT_size (h : Heap) (H : Hp) : (hidT h H).objs.size = h.objs.size := PySem.W.hideAll_size _ _
theorem hidT_get {h : Heap} {H : Hp} {b : Addr} {o : Obj} (e : h.get? b = some o) (n : H b = none) : (hidT h H).get? b = some o :=
  PySem.W.hideAll_get _ e fun hm => by
    have q : (H b).isSome = true := (List.mem_filter.mp hm).2
    rw [n] at q; simp at q
theorem of_hidT {h : Heap} {H : Hp} {b : Addr} {o : Obj} (e : (hidT h H).get? b = some o) : h.get? b = some o ∧ H b = none := by
  have e' : h.get? b = some o := PySem.W.of_hideAll (trk h H) e
  refine ⟨e', ?_⟩
  cases q : H b with
  | none => rfl
  | some x =>
    have hm : b ∈ trk h H := List.mem_filter.mpr ⟨List.mem_range.mpr (Heap.lt_size e'), by simp [q]⟩
    have z : (hidT h H).get? b = none := PySem.W.hideAll_none (trk h H) hm
    rw [z] at e; cases e

/-! ### OpenK's ledger, filled with every new object but one -/
end L2

namespace L2
open PySem PySem.Spec PyProof.Rows

/-- the module's facts, over the base: the heap at the law's entry without what is tracked there -/
structure Mod (K : PySem.W.Frag) (mg : Str → Option Value) (base : Heap) : Prop where
  kin : K.In base
  glob : base.Ns mainGlobals mg
  blt : ∃ mb, base.Ns builtinsNs mb ∧ ∀ x : Str, x ≠ "__name__" → mb x = bootBuiltins x
  nolimit : base.NoLimit

/-- the context: a def's body (or a comprehension's block) running. base: fixed through the whole law; s₀, H₀: the entry; outer: the frames whose slots others may change (a def's callers); stack: all frames that run;
   ex: iterators that were made ahead of the entry and are walked here (a comprehension's); fn: the names whose cells were made at the entry (a def: all; a comprehension's block: its own); calm: not within an except suite; pn: pins that every state bears; xe: what is wanted of an exception that leaves the code -/
structure Cx where
  prog : Program
  w : World
  K : PySem.W.Frag
  mg : Str → Option Value
  base : Heap
  A : Around
  N : List Str
  s_0 : Shared
  H_0 : Hp
  env : Env
  outer : List Env
  stack : List Env
  ex : List Addr
  fn : Str → Bool
  calm : Bool
  pn : List (Addr × Obj)
  xe : Value → Shared → Prop
/-- the callers' frames -/
def frs (l : List Env) : List Addr := l.filterMap (·.frame)
abbrev Cx.fs (X : Cx) : List Addr := frs X.outer

def Vis (sc : Scope) (x : Str) : Prop := sc.names.lookup x = some .local ∨ sc.names.lookup x = some .cell ∨ sc.names.lookup x = some .free
def Loc (sc : Scope) (x : Str) : Prop := sc.names.lookup x = some .local ∨ sc.names.lookup x = some .cell
def Look (env : Env) (h : Heap) (m : Str → Option Value) (x : Str) (u : Value) : Prop :=
  (env.kindOf x = some .local ∧ m x = some u) ∨ ((env.kindOf x = some .cell ∨ env.kindOf x = some .free) ∧ ∃ c, env.cells.lookup x = some c ∧ h.IsCell c (some u))

structure Cx.Ok (X : Cx) : Prop where
  mod : Mod X.K X.mg X.base
  kind : X.env.scope.kind = .function
  glob : X.env.globals = mainGlobals
  blt : X.env.builtins = builtinsNs
  above : X.s_0.heap.objs.size ≤ X.env.locals
  inj : ∀ x y c, X.env.cells.lookup x = some c → X.env.cells.lookup y = some c → x = y
  has : ∀ x, (X.env.kindOf x = some .cell ∨ X.env.kindOf x = some .free) → ∃ c, X.env.cells.lookup x = some c
  cab : ∀ x c, X.fn x = true → X.env.cells.lookup x = some c → X.s_0.heap.objs.size ≤ c
  hd : X.calm = true → X.A.handled = none
  frames : X.A.frames = some X.stack
  stk : X.stack = X.outer ∨ (X.stack = X.env :: X.outer ∧ X.env.frame = some X.env.locals)
  exf : ∀ b ∈ X.ex, b ≠ X.env.locals ∧ ∀ x c, X.env.cells.lookup x = some c → c ≠ b
  bs : ∀ b o, X.base.get? b = some o → X.s_0.heap.get? b = some o ∧ X.H_0 b = none
  bsz : X.base.objs.size ≤ X.s_0.heap.objs.size
  noex : ∀ b o, X.base.get? b = some o → b ∉ X.ex
  exfs : ∀ b ∈ X.ex, b ∉ X.fs
  funs : X.s_0.heap.FunFrames X.base X.outer
  frf : ∀ b ∈ X.fs, X.H_0 b = none

structure Inv (X : Cx) (pins : List (Addr × Obj)) (σ : List (Option V)) (H : Hp) (s : Shared) : Prop where
  ok : X.Ok
  os : s.os = X.s_0.os
  bare : AllBare s.gens
  base : Un X.fs X.ex X.H_0 H X.s_0.heap s.heap
  loc : ∃ m, s.heap.Ns X.env.locals m ∧ ∀ (i : Nat) (x : Str) (v : V), X.N[i]? = some x → σ[i]? = some (some v) → Vis X.env.scope x → ∃ u, RelV v u ∧ Look X.env s.heap m x u
  cell : ∀ x c, X.env.cells.lookup x = some c → ∃ v, s.heap.IsCell c v
  free : H X.env.locals = none
  freeC : ∀ x c, X.env.cells.lookup x = some c → H c = none
  pin : ∀ p ∈ X.pn ++ pins, s.heap.get? p.1 = some p.2 ∧ H p.1 = none ∧ p.1 ≠ X.env.locals ∧ p.1 ∉ X.fs ∧ ∀ v, p.2.data ≠ .cell v
  hok : HOk X.prog X.w H s.heap
  len : σ.length = X.N.length

section
variable {X : Cx} {pins : List (Addr × Obj)} {σ : List (Option V)} {H H' : Hp} {s : Shared} {h' : Heap}

theorem Cx.Ok.nofr (ok : X.Ok) {b : Addr} {o : Obj} (e : X.base.get? b = some o) : b ∉ X.fs := fun hb => by
  have := (ok.funs.mem hb).1
  rw [e] at this; cases this
theorem Inv.bs (I : Inv X pins σ H s) : ∀ b o, X.base.get? b = some o → s.heap.get? b = some o ∧ H b = none := fun b o e =>
  ⟨I.base.keep b o (I.ok.bs b o e).1 (I.ok.bs b o e).2 (I.ok.nofr e) (I.ok.noex b o e), I.base.free b o (I.ok.bs b o e).1 (I.ok.bs b o e).2 (I.ok.noex b o e)⟩
theorem Inv.bk (I : Inv X pins σ H s) : ∀ b o, X.base.get? b = some o → s.heap.get? b = some o := fun b o e => (I.bs b o e).1
theorem Inv.mod (I : Inv X pins σ H s) : Mod X.K X.mg X.base := I.ok.mod
theorem Inv.kIn (I : Inv X pins σ H s) : X.K.In s.heap := I.ok.mod.kin.keeps I.bk
theorem Inv.lt (I : Inv X pins σ H s) : X.env.locals < s.heap.objs.size := let ⟨_, hn, _⟩ := I.loc; hn.lt
theorem Inv.sz (I : Inv X pins σ H s) : X.s_0.heap.objs.size ≤ s.heap.objs.size := Nat.le_trans I.ok.above (Nat.le_of_lt I.lt)
theorem Inv.nofs (I : Inv X pins σ H s) {a : Addr} (h : s.heap.objs.size ≤ a) : a ∉ X.fs := fun hb => by
  obtain ⟨_, o, ho, _⟩ := I.ok.funs.mem hb
  exact absurd (Nat.lt_of_lt_of_le (Heap.lt_size ho) (Nat.le_trans I.sz h)) (Nat.lt_irrefl _)
theorem Inv.cne (I : Inv X pins σ H s) : ∀ x c, X.env.cells.lookup x = some c → c ≠ X.env.locals := fun x c e z => by
  obtain ⟨v, o, ho, hd⟩ := I.cell x c e
  obtain ⟨m, ⟨o', es, ep, ho', hd', _⟩, _⟩ := I.loc
  rw [z, ho'] at ho; cases ho; rw [hd'] at hd; cases hd
theorem Inv.funs (I : Inv X pins σ H s) : s.heap.FunFrames X.base X.outer := by
  have all : ∀ (l : List Env), (∀ b ∈ frs l, b ∈ X.fs) → X.s_0.heap.FunFrames X.base l → s.heap.FunFrames X.base l := by
    intro l
    induction l with
    | nil => intro _ _; trivial
    | cons env r ih =>
      intro hs hl
      obtain ⟨hk, ⟨L, o, hf, hn, ho, hd⟩, hr⟩ := hl
      have hL : L ∈ X.fs := hs L (by unfold frs; rw [List.filterMap_cons, hf]; exact List.mem_cons_self)
      obtain ⟨sl, e⟩ := I.base.slot L o ho (I.ok.frf L hL) hL fun z => I.ok.exfs L z hL
      exact ⟨hk, ⟨L, _, hf, hn, e, hd⟩, ih (fun b hb => hs b (by unfold frs; rw [List.filterMap_cons, hf]; exact List.mem_cons_of_mem _ hb)) hr⟩
  exact all X.outer (fun _ hb => hb) I.ok.funs

/-- the frames that run, for a call -/
theorem Inv.stack (I : Inv X pins σ H s) : s.heap.FunFrames X.base X.stack := by
  rcases I.ok.stk with e | ⟨e, hf⟩
  · rw [e]; exact I.funs
  · rw [e]
    obtain ⟨m, hn, _⟩ := I.loc
    refine .cons (by rw [I.ok.kind]; decide) hf hn ?_ I.funs
    exact Heap.get?_none_of_le (Nat.le_trans I.ok.bsz I.ok.above)
theorem Inv.stkSub (I : Inv X pins σ H s) : ∀ b ∈ frs X.stack, b ∈ X.env.locals :: X.fs := fun b hb => by
  rcases I.ok.stk with e | ⟨e, hf⟩
  · rw [e] at hb; exact List.mem_cons_of_mem _ hb
  · rw [e] at hb
    unfold frs at hb
    rw [List.filterMap_cons, hf] at hb
    exact hb
theorem Inv.stkFree (I : Inv X pins σ H s) : ∀ b ∈ frs X.stack, H b = none := fun b hb => by
  rcases List.mem_cons.mp (I.stkSub b hb) with e | hb
  · rw [e]; exact I.free
  · obtain ⟨_, o, ho, _⟩ := I.ok.funs.mem hb
    exact I.base.free b o ho (I.ok.frf b hb) fun z => I.ok.exfs b z hb

/-- THE STEP: the untracked objects but the frame and the records at ch are kept (the callers' frames up to slots), the frame's map is kept, the new abstract heap is held -/
theorem Inv.step {g' : Array GenState} {t' : Nat} {d' : Drawn} {ch : List Addr} (I : Inv X pins σ H s)
    (hch : ∀ b ∈ ch, (b ∈ X.ex ∨ X.s_0.heap.objs.size ≤ b) ∧ b ≠ X.env.locals ∧ (∀ x c, X.env.cells.lookup x = some c → c ≠ b) ∧ ∀ p ∈ X.pn ++ pins, p.1 ≠ b)
    (keep : ∀ b o, b ≠ X.env.locals → b ∉ X.fs → b ∉ ch → s.heap.get? b = some o → H b = none → h'.get? b = some o)
    (slot : ∀ b o, b ≠ X.env.locals → b ∈ X.fs → b ∉ ch → s.heap.get? b = some o → H b = none → ∃ sl, h'.get? b = some { o with slots := sl }) (free : ∀ b o, b ∉ ch → s.heap.get? b = some o → H b = none → H' b = none)
    (there : ∀ b o, b ∉ ch → s.heap.get? b = some o → ∃ o', h'.get? b = some o')
    (tups : ∀ b xs, H b = some (.tup xs) → H' b = some (.tup xs)) (frzs : ∀ b o u, H b = some (.frz o u) → H' b = some (.frz o u)) (tbls : ∀ b ps, H b = some (.tbl ps) → ∃ more, H' b = some (.tbl (ps ++ more)))
    (ns : ∀ m, s.heap.Ns X.env.locals m → h'.Ns X.env.locals m) (hok : HOk X.prog X.w H' h') (hg : AllBare g') :
    Inv X pins σ H' { s with heap := h', gens := g', drawn := d', toks := t' } := by
  have neL : ∀ b o, X.s_0.heap.get? b = some o → b ≠ X.env.locals := fun b o e => Nat.ne_of_lt (Nat.lt_of_lt_of_le (Heap.lt_size e) I.ok.above)
  have neC : ∀ b o, X.s_0.heap.get? b = some o → b ∉ X.ex → b ∉ ch := fun b o e hx hb => by
    rcases (hch b hb).1 with z | z
    · exact hx z
    · exact absurd (Nat.lt_of_lt_of_le (Heap.lt_size e) z) (Nat.lt_irrefl _)
  have cellK : ∀ x c, X.env.cells.lookup x = some c → ∀ v, s.heap.IsCell c v → h'.IsCell c v := fun x c e v ⟨o, ho, hd⟩ => by
    have nch : c ∉ ch := fun z => (hch c z).2.2.1 x c e rfl
    by_cases hc : c ∈ X.fs
    · obtain ⟨sl, q⟩ := slot c o (I.cne x c e) hc nch ho (I.freeC x c e)
      exact ⟨_, q, hd⟩
    · exact ⟨o, keep c o (I.cne x c e) hc nch ho (I.freeC x c e), hd⟩
  refine ⟨I.ok, I.os, hg, ⟨fun b o e n hb hx => ?_, fun b o e n hb hx => ?_, fun b o e n hx => ?_, fun b o e hx => ?_, fun b xs e => tups b xs (I.base.tups b xs e), fun b o xs e => frzs b o xs (I.base.frzs b o xs e), fun b ps e => ?_⟩, ?_, fun x c e => ?_, ?_, fun x c e => ?_, fun p hp => ?_, hok, I.len⟩
  · exact keep b o (neL b o e) hb (neC b o e hx) (I.base.keep b o e n hb hx) (I.base.free b o e n hx)
  · obtain ⟨sl, e1⟩ := I.base.slot b o e n hb hx
    obtain ⟨sl', e2⟩ := slot b _ (neL b o e) hb (neC b o e hx) e1 (I.base.free b o e n hx)
    exact ⟨sl', e2⟩
  · obtain ⟨o', e1⟩ := I.base.there b o e hx
    exact free b o' (neC b o e hx) e1 (I.base.free b o e n hx)
  · obtain ⟨o', e1⟩ := I.base.there b o e hx
    exact there b o' (neC b o e hx) e1
  · obtain ⟨m1, e1⟩ := I.base.tbls b ps e
    obtain ⟨m2, e2⟩ := tbls b _ e1
    exact ⟨m1 ++ m2, by rw [e2, Array.append_assoc]⟩
  · obtain ⟨m, hn, hl⟩ := I.loc
    refine ⟨m, ns m hn, fun i x v e1 e2 e3 => ?_⟩
    obtain ⟨u, r, l⟩ := hl i x v e1 e2 e3
    refine ⟨u, r, ?_⟩
    rcases l with l | ⟨k, c, e, z⟩
    · exact .inl l
    · exact .inr ⟨k, c, e, cellK x c e _ z⟩
  · obtain ⟨v, z⟩ := I.cell x c e
    exact ⟨v, cellK x c e v z⟩
  · obtain ⟨m, ⟨o, _, _, ho, _⟩, _⟩ := I.loc
    exact free _ o (fun z => (hch _ z).2.1 rfl) ho I.free
  · obtain ⟨v, o, ho, hd⟩ := I.cell x c e
    exact free c o (fun z => (hch c z).2.2.1 x c e rfl) ho (I.freeC x c e)
  · obtain ⟨e, n, ne, nf, d⟩ := I.pin p hp
    have nch : p.1 ∉ ch := fun z => (hch p.1 z).2.2.2 p hp rfl
    exact ⟨keep p.1 p.2 ne nf nch e n, free p.1 p.2 nch e n, ne, nf, d⟩
/-- .. where the frame's own object is kept too -/
theorem Inv.un {t' : Nat} (I : Inv X pins σ H s) (u : Un X.fs [] H H' s.heap h') (hok : HOk X.prog X.w H' h') : Inv X pins σ H' { s with heap := h', toks := t' } := by
  obtain ⟨m, ⟨o, es, ep, ho, r⟩, _⟩ := id I.loc
  obtain ⟨sl, hL⟩ := u.any ho I.free (by simp)
  exact I.step (g' := s.gens) (d' := s.drawn) (ch := []) (fun _ z => nomatch z) (fun b o _ hb _ e n => u.keep b o e n hb (by simp)) (fun b o _ hb _ e n => u.slot b o e n hb (by simp)) (fun b o _ e n => u.free b o e n (by simp)) (fun b o _ e => u.there b o e (by simp)) u.tups u.frzs u.tbls (fun m' hm => by
    obtain ⟨o', es', ep', ho', r'⟩ := hm
    rw [ho] at ho'; cases ho'
    exact ⟨_, es', ep', hL, r'⟩) hok I.bare
/-- behind a call (or a comprehension's block): the slots of this frame may have changed too, the records at ch may have turned -/
theorem Inv.call {g' : Array GenState} {t' : Nat} {d' : Drawn} {ch : List Addr} (I : Inv X pins σ H s) (u : Un (frs X.stack) ch H H' s.heap h') (hok : HOk X.prog X.w H' h') (hg : AllBare g')
    (hch : ∀ b ∈ ch, (b ∈ X.ex ∨ X.s_0.heap.objs.size ≤ b) ∧ b ≠ X.env.locals ∧ (∀ x c, X.env.cells.lookup x = some c → c ≠ b) ∧ ∀ p ∈ X.pn ++ pins, p.1 ≠ b) :
    Inv X pins σ H' { s with heap := h', gens := g', drawn := d', toks := t' } := by
  obtain ⟨m, ⟨o, es, ep, ho, r⟩, _⟩ := id I.loc
  obtain ⟨sl, hL⟩ := u.any ho I.free fun z => (hch _ z).2.1 rfl
  exact I.step (ch := ch) hch (fun b o hL hb hc e n => u.keep b o e n (fun z => (List.mem_cons.mp (I.stkSub b z)).elim hL hb) hc) (fun b o _ _ hc e n => u.any e n hc) (fun b o hc e n => u.free b o e n hc) (fun b o hc e => u.there b o e hc) u.tups u.frzs u.tbls (fun m' hm => by
    obtain ⟨o', es', ep', ho', r'⟩ := hm
    rw [ho] at ho'; cases ho'
    exact ⟨_, es', ep', hL, r'⟩) hok hg
/-- an untracked record of ours (an iterator) has turned -/
theorem Inv.turned {t' : Nat} {it : Addr} (I : Inv X pins σ H s) (k : ∀ b o, b ≠ it → s.heap.get? b = some o → h'.get? b = some o) (hn : H it = none) (hL : it ≠ X.env.locals)
    (h1 : it ∈ X.ex ∨ X.s_0.heap.objs.size ≤ it) (h2 : ∀ x c, X.env.cells.lookup x = some c → c ≠ it) (h3 : ∀ p ∈ X.pn ++ pins, p.1 ≠ it) : Inv X pins σ H { s with heap := h', toks := t' } := by
  have nit : ∀ b u, H b = some u → b ≠ it := fun b u e z => by rw [z, hn] at e; cases e
  refine I.step (g' := s.gens) (d' := s.drawn) (ch := [it]) (fun b hb => ?_) (fun b o _ _ hc e _ => k b o (fun z => hc (by simp [z])) e) (fun b o _ _ hc e _ => ⟨o.slots, k b o (fun z => hc (by simp [z])) e⟩) (fun _ _ _ _ n => n)
    (fun b o hc e => ⟨o, k b o (fun z => hc (by simp [z])) e⟩) (fun _ _ e => e) (fun _ _ _ e => e) (fun b ps e => ⟨#[], by rw [e]; simp⟩) (fun m hm => ?_) (fun b u e => ?_) I.bare
  · have e : b = it := by simpa using hb
    subst e
    exact ⟨h1, hL, h2, h3⟩
  · obtain ⟨o, es, ep, ho, r⟩ := hm
    exact ⟨o, es, ep, k _ o (Ne.symm hL) ho, r⟩
  · refine (I.hok b u e).stay (fun c v hc q => k c v ?_ q) (fun _ q => q) fun _ _ q => q
    rcases hc with z | z
    · rw [z]; exact nit b u e
    · exact nit c _ z
theorem Inv.tok (I : Inv X pins σ H s) (t : Nat) : Inv X pins σ H { s with toks := t } := I.un (h' := s.heap) (t' := t) Un.refl I.hok
/-- all objects kept -/
theorem Inv.kept {t' : Nat} (I : Inv X pins σ H s) (k : ∀ b u, s.heap.get? b = some u → h'.get? b = some u) : Inv X pins σ H { s with heap := h', toks := t' } := I.un (Un.kept k) (I.hok.kept k)
/-- a new object laid and tracked -/
theorem Inv.laid {a : Addr} {o : HO} {t' : Nat} (I : Inv X pins σ H s) (k : ∀ b u, s.heap.get? b = some u → h'.get? b = some u) (hp : s.heap.objs.size ≤ a) (new : ObjOk X.prog X.w (upd H a o) h' a o) :
    Inv X pins σ (upd H a o) { s with heap := h', toks := t' } := I.un (Un.laid k hp (I.hok.fresh hp)) (I.hok.laid k hp new)
/-- an object written -/
theorem Inv.write {x e : Addr} {o : HO} {t' : Nat} (I : Inv X pins σ H s) (mu : Mut (H x)) (he : e = x ∨ H e = some (.own x)) (k : ∀ b u, b ≠ e → s.heap.get? b = some u → h'.get? b = some u) (heo : ∃ u, h'.get? e = some u)
    (new : ObjOk X.prog X.w (upd H x o) h' x o) : Inv X pins σ (upd H x o) { s with heap := h', toks := t' } := I.un (Un.write mu he k heo) (I.hok.write mu he k heo new)
/-- forgetting slots, pins -/
theorem Inv.weak {σ' : List (Option V)} (I : Inv X pins σ H s) (hl : σ'.length = σ.length) (w : ∀ (i : Nat) v, σ'[i]? = some (some v) → σ[i]? = some (some v)) : Inv X pins σ' H s :=
  ⟨I.ok, I.os, I.bare, I.base, let ⟨m, hn, hl'⟩ := I.loc; ⟨m, hn, fun i x v e1 e2 e3 => hl' i x v e1 (w i v e2) e3⟩, I.cell, I.free, I.freeC, I.pin, I.hok, hl.trans I.len⟩
theorem Inv.pins_of {pins' : List (Addr × Obj)} (I : Inv X pins σ H s) (h : ∀ p ∈ pins', s.heap.get? p.1 = some p.2 ∧ H p.1 = none ∧ p.1 ≠ X.env.locals ∧ p.1 ∉ X.fs ∧ ∀ v, p.2.data ≠ .cell v) : Inv X pins' σ H s :=
  ⟨I.ok, I.os, I.bare, I.base, I.loc, I.cell, I.free, I.freeC, fun p hp => (List.mem_append.mp hp).elim (fun z => I.pin p (List.mem_append_left _ z)) (h p), I.hok, I.len⟩

theorem nodup_ix {N : List Str} (hN : N.Nodup) {i j : Nat} {x : Str} (a : N[i]? = some x) (b : N[j]? = some x) : i = j := by
  obtain ⟨h1, e1⟩ := List.getElem?_eq_some_iff.mp a
  obtain ⟨h2, e2⟩ := List.getElem?_eq_some_iff.mp b
  exact (List.getElem_inj hN).mp (e1.trans e2.symm)

/-- a name is stored; what changed -/
theorem store_ok2 {M : Model} {A : Around} {E : Value → Shared → Prop} {i : Nat} {x : Str} {v : V} {u : Value} {Q : Unit → Shared → Prop} (I : Inv X pins σ H s) (hN : X.N.Nodup) (hi : X.N[i]? = some x) (hx : Loc X.env.scope x) (r : RelV v u)
    (h : ∀ s', Inv X pins (σ.set i (some v)) H s' → (∃ a, Heap.SameBut a s.heap s'.heap ∧ (a = X.env.locals ∨ X.env.cells.lookup x = some a)) → Q () s') (hf : X.fn x = true ∨ X.env.scope.names.lookup x = some .local := by first | exact .inl rfl | exact .inr rfl | assumption) : wpAny M A (storeName X.env x u) Q E s := by
  obtain ⟨m, hn, hl⟩ := id I.loc
  have hcls : (X.env.scope.kind == .class || (X.env.scope.kind == .module && X.env.locals != X.env.globals)) = false := by rw [I.ok.kind]; rfl
  have hiσ : i < σ.length := by rw [I.len]; exact (List.getElem?_eq_some_iff.mp hi).1
  have cne := I.cne
  have tracked : ∀ {a : Addr} {h' : Heap}, (∃ o, s.heap.get? a = some o ∧ H a = none) → Heap.SameBut a s.heap h' → HOk X.prog X.w H h' := fun {a h'} ha hs b ob e => by
    obtain ⟨_, _, hfree⟩ := ha
    refine (I.hok b ob e).stay (fun c w' hc q => (hs.2 c ?_).trans q) (fun _ q => q) fun _ _ q => q
    rintro rfl
    rcases hc with rfl | hc
    · rw [hfree] at e; cases e
    · rw [hfree] at hc; cases hc
  rcases hx with hk | hk
  · refine wpAny_storeName_local hk hn (fun h' hn' hs => ?_) hcls
    obtain ⟨oL, _, _, hoL, _⟩ := id hn
    refine h _ ⟨I.ok, I.os, I.bare, ⟨fun b o e n hb hx => ?_, fun b o e n hb hx => ?_, I.base.free, fun b o e hx => ?_, I.base.tups, I.base.frzs, I.base.tbls⟩, ⟨_, hn', fun j y v' e1 e2 e3 => ?_⟩, fun y c e => ?_, I.free, I.freeC, fun p hp => ?_, tracked ⟨oL, hoL, I.free⟩ hs, by simpa using I.len⟩ ⟨_, hs, .inl rfl⟩
    · exact (hs.2 b (Nat.ne_of_lt (Nat.lt_of_lt_of_le (Heap.lt_size e) I.ok.above))).trans (I.base.keep b o e n hb hx)
    · obtain ⟨sl, e1⟩ := I.base.slot b o e n hb hx
      exact ⟨sl, (hs.2 b (Nat.ne_of_lt (Nat.lt_of_lt_of_le (Heap.lt_size e) I.ok.above))).trans e1⟩
    · obtain ⟨o', e1⟩ := I.base.there b o e hx
      exact ⟨o', (hs.2 b (Nat.ne_of_lt (Nat.lt_of_lt_of_le (Heap.lt_size e) I.ok.above))).trans e1⟩
    · by_cases hj : j = i
      · subst hj
        rw [hi] at e1; cases e1
        rw [List.getElem?_set_self hiσ] at e2
        cases e2
        exact ⟨u, r, .inl ⟨hk, by simp⟩⟩
      · rw [List.getElem?_set_ne (Ne.symm hj)] at e2
        obtain ⟨u', r', q⟩ := hl j y v' e1 e2 e3
        refine ⟨u', r', ?_⟩
        rcases q with ⟨k, e⟩ | ⟨k, c, e, z⟩
        · refine .inl ⟨k, ?_⟩
          have : y ≠ x := fun e => hj (nodup_ix hN e1 (e ▸ hi))
          simp [this, e]
        · exact .inr ⟨k, c, e, z.sameBut hs (cne y c e)⟩
    · obtain ⟨w', z⟩ := I.cell y c e
      exact ⟨w', z.sameBut hs (cne y c e)⟩
    · obtain ⟨e, n, ne, nf, d⟩ := I.pin p hp
      exact ⟨(hs.2 p.1 ne).trans e, n, ne, nf, d⟩
  · have hfn : X.fn x = true := by
      rcases hf with z | z
      · exact z
      · rw [z] at hk; cases hk
    obtain ⟨c, hc⟩ := I.ok.has x (.inl hk)
    obtain ⟨w', z⟩ := I.cell x c hc
    refine wpAny_storeName_cell I.ok.kind hk hc z (fun h' hc' hs => ?_)
    obtain ⟨oc, hoc, hocd⟩ := id z
    refine h { s with heap := h' } ⟨I.ok, I.os, I.bare, ⟨fun b o e n hb hx => ?_, fun b o e n hb hx => ?_, I.base.free, fun b o e hx => ?_, I.base.tups, I.base.frzs, I.base.tbls⟩, ⟨m, hn.sameBut hs (Ne.symm (cne x c hc)), fun j y v' e1 e2 e3 => ?_⟩, fun y c' e => ?_, I.free, I.freeC, fun p hp => ?_, tracked ⟨oc, hoc, I.freeC x c hc⟩ hs, by simpa using I.len⟩ ⟨c, hs, .inr hc⟩
    · exact (hs.2 b (Nat.ne_of_lt (Nat.lt_of_lt_of_le (Heap.lt_size e) (I.ok.cab x c hfn hc)))).trans (I.base.keep b o e n hb hx)
    · obtain ⟨sl, e1⟩ := I.base.slot b o e n hb hx
      exact ⟨sl, (hs.2 b (Nat.ne_of_lt (Nat.lt_of_lt_of_le (Heap.lt_size e) (I.ok.cab x c hfn hc)))).trans e1⟩
    · obtain ⟨o', e1⟩ := I.base.there b o e hx
      exact ⟨o', (hs.2 b (Nat.ne_of_lt (Nat.lt_of_lt_of_le (Heap.lt_size e) (I.ok.cab x c hfn hc)))).trans e1⟩
    · by_cases hj : j = i
      · subst hj
        rw [hi] at e1; cases e1
        rw [List.getElem?_set_self hiσ] at e2
        cases e2
        exact ⟨u, r, .inr ⟨.inl hk, c, hc, hc'⟩⟩
      · rw [List.getElem?_set_ne (Ne.symm hj)] at e2
        obtain ⟨u', r', q⟩ := hl j y v' e1 e2 e3
        refine ⟨u', r', ?_⟩
        rcases q with q | ⟨k, c', e, z'⟩
        · exact .inl q
        · refine .inr ⟨k, c', e, z'.sameBut hs ?_⟩
          rintro rfl
          exact hj (nodup_ix hN e1 (I.ok.inj _ _ _ e hc ▸ hi))
    · by_cases hcc : c' = c
      · subst hcc; exact ⟨_, hc'⟩
      · obtain ⟨w2, z2⟩ := I.cell y c' e
        exact ⟨w2, z2.sameBut hs hcc⟩
    · obtain ⟨e, n, ne, nf, d⟩ := I.pin p hp
      refine ⟨(hs.2 p.1 ?_).trans e, n, ne, nf, d⟩
      intro q
      rw [q, hoc] at e
      have q' : oc = p.2 := Option.some.inj e
      exact d w' (by rw [← q']; exact hocd)
theorem store_ok {M : Model} {A : Around} {E : Value → Shared → Prop} {i : Nat} {x : Str} {v : V} {u : Value} {Q : Unit → Shared → Prop} (I : Inv X pins σ H s) (hN : X.N.Nodup) (hi : X.N[i]? = some x) (hx : Loc X.env.scope x) (r : RelV v u)
    (h : ∀ s', Inv X pins (σ.set i (some v)) H s' → Q () s') (hf : X.fn x = true ∨ X.env.scope.names.lookup x = some .local := by first | exact .inl rfl | exact .inr rfl | assumption) : wpAny M A (storeName X.env x u) Q E s :=
  store_ok2 I hN hi hx r (fun s' I' _ => h s' I') hf
/-- behind a call or a block, the state as it is -/
theorem Inv.call' {s' : Shared} {ch : List Addr} (I : Inv X pins σ H s) (ho : s'.os = s.os) (u : Un (frs X.stack) ch H H' s.heap s'.heap) (hok : HOk X.prog X.w H' s'.heap) (hg : AllBare s'.gens)
    (hch : ∀ b ∈ ch, (b ∈ X.ex ∨ X.s_0.heap.objs.size ≤ b) ∧ b ≠ X.env.locals ∧ (∀ x c, X.env.cells.lookup x = some c → c ≠ b) ∧ ∀ p ∈ X.pn ++ pins, p.1 ≠ b) : Inv X pins σ H' s' := by
  obtain ⟨h', g', d', t', o'⟩ := s'
  have e : o' = s.os := ho
  subst e
  exact I.call (g' := g') (t' := t') (d' := d') u hok hg hch
end

/-! ### the judgements -/
/-- an exception: its class, its own dict's address (where it has one), the abstract heap behind it -/
abbrev XK := Value → Option Addr → Hp → Prop
abbrev St := List (Option V)
abbrev VK := V → Hp → Prop
/-- an expression's reading; a test's; an argument list's -/
abbrev TE := St → Hp → VK → Prop
abbrev TT := St → Hp → (Bool → Hp → Prop) → Prop
abbrev TA := St → Hp → (List V → Hp → Prop) → Prop
/-- what is wanted behind a statement -/
structure Ends where
  nx : St → Hp → Prop
  rt : VK
  bk : St → Hp → Prop := fun _ _ => False
  ct : St → Hp → Prop := fun _ _ => False
abbrev TS := Ends → St → Hp → Prop

def EP (X : Cx) (pins : List (Addr × Obj)) (σ : St) (Q : VK) (u : Value) (s' : Shared) : Prop := ∃ v H', Inv X pins σ H' s' ∧ RelV v u ∧ Q v H'
def TP (X : Cx) (pins : List (Addr × Obj)) (σ : St) (Q : Bool → Hp → Prop) (b : Bool) (s' : Shared) : Prop := ∃ H', Inv X pins σ H' s' ∧ Q b H'
def AP (X : Cx) (pins : List (Addr × Obj)) (σ : St) (Q : List V → Hp → Prop) (us : List Value) (s' : Shared) : Prop := ∃ vs H', Inv X pins σ H' s' ∧ Vals vs us ∧ Q vs H'
def SP (X : Cx) (pins : List (Addr × Obj)) (D : Ends) (f : Flow) (s' : Shared) : Prop :=
  match f with
  | .next => ∃ σ' H', Inv X pins σ' H' s' ∧ D.nx σ' H'
  | .brk => ∃ σ' H', Inv X pins σ' H' s' ∧ D.bk σ' H'
  | .cont => ∃ σ' H', Inv X pins σ' H' s' ∧ D.ct σ' H'
  | .ret u => ∃ v σ' H', Inv X pins σ' H' s' ∧ RelV v u ∧ D.rt v H'

def PE (X : Cx) (e : Expr) (t : TE) : Prop :=
  ∀ (pins : List (Addr × Obj)) (s : Shared) (σ : St) (H : Hp) (Q : VK), Inv X pins σ H s → t σ H Q → wpAny (model X.prog X.w) X.A (eval e X.env) (EP X pins σ Q) X.xe s
def PT (X : Cx) (e : Expr) (t : TT) : Prop :=
  ∀ (pins : List (Addr × Obj)) (s : Shared) (σ : St) (H : Hp) (Q : Bool → Hp → Prop), Inv X pins σ H s → t σ H Q → wpAny (model X.prog X.w) X.A (isTrue e X.env (eval e X.env)) (TP X pins σ Q) X.xe s
/-- a test whatever its 'whole' is (and, or) -/
def PW (X : Cx) (e : Expr) (t : TT) : Prop :=
  ∀ (whole : Sem Value) (pins : List (Addr × Obj)) (s : Shared) (σ : St) (H : Hp) (Q : Bool → Hp → Prop), Inv X pins σ H s → t σ H Q → wpAny (model X.prog X.w) X.A (isTrue e X.env whole) (TP X pins σ Q) X.xe s
theorem PW.pt {X : Cx} {e : Expr} {t : TT} (h : PW X e t) : PT X e t := h _
/-- an argument list (no star), from the left -/
def PA (X : Cx) (es : List Expr) (t : TA) : Prop :=
  ∀ (pos : Pos) (pins : List (Addr × Obj)) (s : Shared) (σ : St) (H : Hp) (Q : List V → Hp → Prop), Inv X pins σ H s → t σ H Q → wpAny (model X.prog X.w) X.A (spliced (backTo pos (starEach es X.env))) (AP X pins σ Q) X.xe s
def PS (X : Cx) (st : Stmt) (t : TS) : Prop :=
  ∀ (pins : List (Addr × Obj)) (s : Shared) (σ : St) (H : Hp) (D : Ends), Inv X pins σ H s → t D σ H → wpAny (model X.prog X.w) X.A (exec st X.env) (SP X pins D) X.xe s
def PSs (X : Cx) (st : List Stmt) (t : TS) : Prop :=
  ∀ (pins : List (Addr × Obj)) (s : Shared) (σ : St) (H : Hp) (D : Ends), Inv X pins σ H s → t D σ H → wpAny (model X.prog X.w) X.A (execs st X.env) (SP X pins D) X.xe s
/-- weaken the end -/
theorem thn {α : Type} {t : Sem α} {Q Q' : α → Shared → Prop} {M : Model} {A : Around} {E : Value → Shared → Prop} {s : Shared} (h : wpAny M A t Q E s) (hQ : ∀ a s, Q a s → Q' a s) : wpAny M A t Q' E s := wpAny_mono h hQ fun _ _ x => x
end L2

namespace L2
open PySem PySem.Spec PyProof.Rows
section
variable {X : Cx}


/-! ### names and constants -/
def tVar (i : Nat) : TE := fun σ H Q => ∃ v, σ[i]? = some (some v) ∧ Q v H
def tC (v : V) : TE := fun _ H Q => Q v H
theorem pe_var {i : Nat} {x : Str} {pos : Pos} (hN : X.N[i]? = some x) (hv : Vis X.env.scope x) (hd : (x == ("__debug__" : Str)) = false := by decide) (hcd : (x == ("__classdict__" : Str)) = false := by decide) : PE X (.Name x pos) (tVar i) := by
  intro pins s σ H Q I h
  obtain ⟨v, e, h⟩ := h
  obtain ⟨m, hn, hl⟩ := I.loc
  obtain ⟨u, r, l⟩ := hl i x v hN e hv
  have fin : EP X pins σ Q u s := ⟨v, H, I, r, h⟩
  rcases l with ⟨hk, hm⟩ | ⟨hk, c, hc, hcell⟩
  · exact wpAny_Name (wpAny_loadName_local I.ok.kind hk hn hm fin) hd
  · rcases hk with hk | hk
    · exact wpAny_Name (wpAny_loadName_cell I.ok.kind hk hc hcell fin) hd
    · exact wpAny_Name (wpAny_loadName_free I.ok.kind hk hc hcell fin hcd) hd
theorem pe_int {i j pos} : PE X (.Constant (.int i) j pos) (tC (.int i)) := fun _ _ _ H _ I h => wpAny_Constant_int ⟨.int i, H, I.tok _, ⟨_, rfl⟩, h⟩
theorem pe_bl {b j pos} : PE X (.Constant (.bool b) j pos) (tC (.bl b)) := fun _ _ _ H _ I h => Constant_bool ⟨.bl b, H, I, rfl, h⟩
theorem pe_non {j pos} : PE X (.Constant .none j pos) (tC .non) := fun _ _ _ H _ I h => Constant_none ⟨.non, H, I, rfl, h⟩
theorem pe_str {x j pos} : PE X (.Constant (.str x) j pos) (tC (.str x)) := fun _ _ _ H _ I h => Calls.Constant_str ⟨.str x, H, I.tok _, ⟨_, rfl⟩, h⟩

/-- a global name of the def -/
def Gl (X : Cx) (x : Str) : Prop := X.env.kindOf x = some .globalImplicit
theorem ld_glob {E : Value → Shared → Prop} {pins : List (Addr × Obj)} {s : Shared} {σ : St} {H : Hp} {x : Str} {u : Value} {pos : Pos} {Q : Value → Shared → Prop} (I : Inv X pins σ H s) (hg : Gl X x) (hm : X.mg x = some u) (h : Q u s)
    (hd : (x == ("__debug__" : Str)) = false := by decide) : wpAny (model X.prog X.w) X.A (eval (.Name x pos) X.env) Q E s :=
  Calls.Name_function_global I.ok.kind hg (Calls.loadGlobal_global (by rw [I.ok.glob]; exact I.mod.glob.keeps I.bk) hm h) hd
theorem ld_blt {E : Value → Shared → Prop} {pins : List (Addr × Obj)} {s : Shared} {σ : St} {H : Hp} {x : Str} {u : Value} {pos : Pos} {Q : Value → Shared → Prop} (I : Inv X pins σ H s) (hg : Gl X x) (hm : X.mg x = none) (hv : bootBuiltins x = some u) (h : Q u s)
    (hn : x ≠ "__name__" := by decide) (hd : (x == ("__debug__" : Str)) = false := by decide) : wpAny (model X.prog X.w) X.A (eval (.Name x pos) X.env) Q E s := by
  obtain ⟨mb, h1, h2⟩ := I.mod.blt
  exact Calls.Name_function_global I.ok.kind hg (Calls.loadGlobal_builtin (by rw [I.ok.glob]; exact I.mod.glob.keeps I.bk) hm (by rw [I.ok.blt]; exact h1.keeps I.bk) ((h2 x hn).trans hv) h) hd
/-- a module's constant, a class, a function, as a value -/
theorem pe_glob {x : Str} {v : V} {u : Value} {pos : Pos} (hg : Gl X x) (hm : X.mg x = some u) (r : RelV v u) (hd : (x == ("__debug__" : Str)) = false := by decide) : PE X (.Name x pos) (tC v) :=
  fun _ _ _ H _ I h => ld_glob I hg hm ⟨v, H, I, r, h⟩ hd
theorem pe_bltn {x : Str} {v : V} {u : Value} {pos : Pos} (hg : Gl X x) (hm : X.mg x = none) (hv : bootBuiltins x = some u) (r : RelV v u) (hn : x ≠ "__name__" := by decide) (hd : (x == ("__debug__" : Str)) = false := by decide) : PE X (.Name x pos) (tC v) :=
  fun _ _ _ H _ I h => ld_blt I hg hm hv ⟨v, H, I, r, h⟩ hn hd

/-! ### arithmetic -/
/-- two ints -/
def t2I (ta tb : TE) (k : Int → Int → Hp → Prop) : St → Hp → Prop := fun σ H => ta σ H fun x H1 => tb σ H1 fun y H2 => ∃ i j, x = .int i ∧ y = .int j ∧ k i j H2
variable {a b : Expr} {ta tb : TE} {pos : Pos}

/-! ### comparisons -/
def PC (X : Cx) (op : CmpOp) (a b : Expr) (t : TE) : Prop :=
  ∀ (pins : List (Addr × Obj)) (s : Shared) (σ : St) (H : Hp) (Q : VK), Inv X pins σ H s → t σ H Q →
    wpAny (model X.prog X.w) X.A (eval a X.env) (fun v s₁ => wpAny (model X.prog X.w) X.A (eval b X.env) (fun u s₂ => wpAny (model X.prog X.w) X.A (compareOp op v u) (EP X pins σ Q) X.xe s₂) X.xe s₁) X.xe s
def tCmp (p : Int → Int → Bool) (ta tb : TE) : TE := fun σ H Q => t2I ta tb (fun i j H2 => Q (.bl (p i j)) H2) σ H
abbrev tLt : TE → TE → TE := tCmp fun i j => decide (i < j)
abbrev tLe : TE → TE → TE := tCmp fun i j => decide (i ≤ j)
abbrev tGt : TE → TE → TE := tCmp fun i j => decide (j < i)
abbrev tGe : TE → TE → TE := tCmp fun i j => decide (j ≤ i)
abbrev tEqI : TE → TE → TE := tCmp fun i j => decide (i = j)
abbrev tNeI : TE → TE → TE := tCmp fun i j => !decide (i = j)
/-- a comparison as a value, as a test -/
def tB (t : TE) : TT := fun σ H Q => t σ H fun x H1 => ∃ c, x = .bl c ∧ Q c H1
theorem pe_cmp {op : CmpOp} {t : TE} (h : PC X op a b t) (h1 : behindInMarks op b = false := by first | exact nobehind _ (by decide) (by decide) | rfl) : PE X (.Compare a [op] [b] pos) t := fun pins s σ H Q I hw => wpAny_Compare1 (h pins s σ H Q I hw) h1
theorem pt_cmp {op : CmpOp} {t : TE} (h : PC X op a b t) (h1 : behindInMarks op b = false := by first | exact nobehind _ (by decide) (by decide) | rfl) : PT X (.Compare a [op] [b] pos) (tB t) := by
  intro pins s σ H Q I hw
  refine wpAny_isTrue_Compare1 (thn (h pins s σ H _ I hw) fun v s1 h1 => thn h1 fun u s2 h2 => thn h2 fun c s3 ⟨x, H1, I1, r1, q1⟩ => ?_) h1
  obtain ⟨d, rfl, q⟩ := q1
  cases r1
  exact wpAny_truthy_bool ⟨H1, I1, q⟩

/-! ### and, or, not -/
variable {tA tB' : TT} {rest : List Expr}
def tAnd (t u : TT) : TT := fun σ H Q => t σ H fun c H1 => if c = true then u σ H1 Q else Q false H1
def tOr (t u : TT) : TT := fun σ H Q => t σ H fun c H1 => if c = true then Q true H1 else u σ H1 Q
def tNot (t : TT) : TT := fun σ H Q => t σ H fun c H1 => Q (!c) H1
theorem pw_and1 (ha : PT X a tA) : PW X (.BoolOp .And [a] pos) tA := by
  intro wh pins s σ H Q I h
  refine isTrue_and (thn (ha pins s σ H Q I h) fun c s1 e => ?_)
  cases c with
  | true => exact isTrue_and_nil e
  | false => exact e
theorem pw_or1 (ha : PT X a tA) : PW X (.BoolOp .Or [a] pos) tA := by
  intro wh pins s σ H Q I h
  refine isTrue_or (thn (ha pins s σ H Q I h) fun c s1 e => ?_)
  cases c with
  | false => exact isTrue_or_nil e
  | true => exact e
theorem pw_and (ha : PT X a tA) (hb : PW X (.BoolOp .And (b :: rest) pos) tB') : PW X (.BoolOp .And (a :: b :: rest) pos) (tAnd tA tB') := by
  intro wh pins s σ H Q I h
  refine isTrue_and (thn (ha pins s σ H _ I h) fun c s1 ⟨H1, I1, q1⟩ => ?_)
  cases c with
  | true => exact hb wh pins s1 σ H1 Q I1 q1
  | false => exact ⟨H1, I1, q1⟩
theorem pw_or (ha : PT X a tA) (hb : PW X (.BoolOp .Or (b :: rest) pos) tB') : PW X (.BoolOp .Or (a :: b :: rest) pos) (tOr tA tB') := by
  intro wh pins s σ H Q I h
  refine isTrue_or (thn (ha pins s σ H _ I h) fun c s1 ⟨H1, I1, q1⟩ => ?_)
  cases c with
  | true => exact ⟨H1, I1, q1⟩
  | false => exact hb wh pins s1 σ H1 Q I1 q1
theorem pt_not (ha : PT X a tA) : PT X (.UnaryOp .Not a pos) (tNot tA) := by
  intro pins s σ H Q I h
  exact isTrue_not (ha pins s σ H (fun c H1 => Q (!c) H1) I h)
/-- .. as values (bools) -/
def tAndV (ta tb : TE) : TE := fun σ H Q => ta σ H fun x H1 => ∃ c, x = .bl c ∧ if c = true then tb σ H1 Q else Q (.bl false) H1
def tOrV (ta tb : TE) : TE := fun σ H Q => ta σ H fun x H1 => ∃ c, x = .bl c ∧ if c = true then Q (.bl true) H1 else tb σ H1 Q
def tNotV (ta : TE) : TE := fun σ H Q => ta σ H fun x H1 => ∃ c, x = .bl c ∧ Q (.bl (!c)) H1
theorem pe_one {op} {t : TE} (h : PE X a t) : PE X (.BoolOp op [a] pos) t := fun pins s σ H Q I hw => BoolOp_one (h pins s σ H Q I hw)
theorem pe_and (ha : PE X a ta) (hb : PE X (.BoolOp .And (b :: rest) pos) tb) : PE X (.BoolOp .And (a :: b :: rest) pos) (tAndV ta tb) := by
  intro pins s σ H Q I h
  refine BoolOp_and (thn (ha pins s σ H _ I h) fun v s1 ⟨x, H1, I1, r1, q1⟩ => ?_)
  obtain ⟨c, rfl, q1⟩ := q1
  cases r1
  refine wpAny_truthy_bool ?_
  cases c with
  | true => exact hb pins s1 σ H1 Q I1 q1
  | false => exact ⟨.bl false, H1, I1, rfl, q1⟩
theorem pe_or (ha : PE X a ta) (hb : PE X (.BoolOp .Or (b :: rest) pos) tb) : PE X (.BoolOp .Or (a :: b :: rest) pos) (tOrV ta tb) := by
  intro pins s σ H Q I h
  refine BoolOp_or (thn (ha pins s σ H _ I h) fun v s1 ⟨x, H1, I1, r1, q1⟩ => ?_)
  obtain ⟨c, rfl, q1⟩ := q1
  cases r1
  refine wpAny_truthy_bool ?_
  cases c with
  | false => exact hb pins s1 σ H1 Q I1 q1
  | true => exact ⟨.bl true, H1, I1, rfl, q1⟩
theorem pe_not (ha : PE X a ta) : PE X (.UnaryOp .Not a pos) (tNotV ta) := by
  intro pins s σ H Q I h
  refine UnaryOp_ (thn (ha pins s σ H _ I h) fun v s1 ⟨x, H1, I1, r1, q1⟩ => ?_)
  obtain ⟨c, rfl, q1⟩ := q1
  cases r1
  exact not_of (wpAny_truthy_bool ⟨.bl (!c), H1, I1, rfl, q1⟩)
/-- a if t else b -/
def tIf (t : TT) (ta tb : TE) : TE := fun σ H Q => t σ H fun c H1 => if c = true then ta σ H1 Q else tb σ H1 Q
theorem pe_ifExp {c : Expr} (hc : PT X c tA) (ha : PE X a ta) (hb : PE X b tb) : PE X (.IfExp c a b pos) (tIf tA ta tb) := by
  intro pins s σ H Q I h
  refine wpAny_IfExp (thn (hc pins s σ H _ I h) fun d s1 ⟨H1, I1, q1⟩ => ?_)
  cases d with
  | true => exact ha pins s1 σ H1 Q I1 q1
  | false => exact hb pins s1 σ H1 Q I1 q1
end
end L2

namespace L2
open PySem PySem.Spec PyProof.Rows

/-! ### a list, a tuple that is read: tracked, frozen, or an object of the module -/
def SqL (K : PySem.W.Frag) (H : Hp) (a : Addr) (xs : List V) : Prop :=
  Rd H a (.lst xs) ∨
    ∃ (o : Obj) (its : Array Value) (n : Nat), K.lookup a = some o ∧ o.cls = .type "list" ∧ o.dict = none ∧ o.data = .seq its n ∧ its.size ≤ sizeLine ∧ Vals xs its.toList
def SqT (K : PySem.W.Frag) (H : Hp) (a : Addr) (xs : List V) : Prop :=
  Rd H a (.tup xs) ∨
    ∃ (o : Obj) (its : Array Value) (n : Nat), K.lookup a = some o ∧ o.cls = .type "tuple" ∧ o.data = .seq its n ∧ its.size ≤ sizeLine ∧ Vals xs its.toList
def absV : Value → Option V
  | .none => some .non
  | .bool b => some (.bl b)
  | .int i _ => some (.int i)
  | .str x _ => some (.str x)
  | .bytes b _ => some (.byt b)
  | .float b _ => some (.flt b)
  | .ref a => some (.ref a)
  | .type n => some (.ty n)
  | _ => none
theorem RelV.abs {x : V} {u : Value} (r : RelV x u) : absV u = some x := by
  cases x with
  | non => cases r; rfl
  | bl _ => cases r; rfl
  | int _ => obtain ⟨t, rfl⟩ := r; rfl
  | str _ => obtain ⟨t, rfl⟩ := r; rfl
  | byt _ => obtain ⟨t, rfl⟩ := r; rfl
  | flt _ => obtain ⟨t, rfl⟩ := r; rfl
  | ref _ => cases r; rfl
  | ty _ => cases r; rfl
theorem RelV.inj {x y : V} {u : Value} (r : RelV x u) (q : RelV y u) : x = y := Option.some.inj (r.abs.symm.trans q.abs)
theorem Vals.inj : ∀ {xs ys : List V} {us : List Value}, Vals xs us → Vals ys us → xs = ys
  | _, _, _, .nil, .nil => rfl
  | _, _, _, .cons r t, .cons r' t' => by rw [r.inj r', Vals.inj t t']
section
variable {X : Cx} {pins : List (Addr × Obj)} {σ : St} {H : Hp} {s : Shared} {a : Addr} {xs ys : List V}
theorem SqL.of {K : PySem.W.Frag} (h : H a = some (.lst xs)) : SqL K H a xs := .inl (.inl h)
theorem SqT.of {K : PySem.W.Frag} (h : H a = some (.tup xs)) : SqT K H a xs := .inl (.inl h)
theorem Inv.list (I : Inv X pins σ H s) (h : SqL X.K H a xs) : ∃ its : List Value, Vals xs its ∧ PlainL s.heap a its.toArray ∧ xs.length ≤ sizeLine := by
  rcases h with h | ⟨o, its, n, hk, hc, hd, hs, hz, r⟩
  · obtain ⟨z, its, n, r, e⟩ := h.ok I.hok
    exact ⟨its, r, ⟨_, n, e, rfl, rfl, rfl⟩, z⟩
  · refine ⟨its.toList, r, ⟨o, n, I.kIn a o hk, hc, hd, by simpa using hs⟩, ?_⟩
    have e := r.length
    simp only [Array.length_toList] at e
    omega
theorem Inv.tuple (I : Inv X pins σ H s) (h : SqT X.K H a xs) : ∃ its : List Value, Vals xs its ∧ IsTup s.heap a its.toArray ∧ xs.length ≤ sizeLine := by
  rcases h with h | ⟨o, its, n, hk, hc, hs, hz, r⟩
  · obtain ⟨z, its, r, p⟩ := h.ok I.hok
    exact ⟨its, r, p, z⟩
  · refine ⟨its.toList, r, ⟨o, I.kIn a o hk, hc, n, by simpa using hs⟩, ?_⟩
    have e := r.length
    simp only [Array.length_toList] at e
    omega
theorem Inv.list_inj (I : Inv X pins σ H s) (h : SqL X.K H a xs) (h' : SqL X.K H a ys) : xs = ys := by
  obtain ⟨its, r, ⟨o, n, e, _, _, d⟩, _⟩ := I.list h
  obtain ⟨its', r', ⟨o', n', e', _, _, d'⟩, _⟩ := I.list h'
  rw [e] at e'; cases e'
  rw [d] at d'
  injection d' with d1 _
  have : its = its' := by simpa using congrArg Array.toList d1
  subst this
  exact r.inj r'
theorem Inv.tuple_inj (I : Inv X pins σ H s) (h : SqT X.K H a xs) (h' : SqT X.K H a ys) : xs = ys := by
  obtain ⟨its, r, ⟨o, e, _, n, d⟩, _⟩ := I.tuple h
  obtain ⟨its', r', ⟨o', e', _, n', d'⟩, _⟩ := I.tuple h'
  rw [e] at e'; cases e'
  rw [d] at d'
  injection d' with d1 _
  have : its = its' := by simpa using congrArg Array.toList d1
  subst this
  exact r.inj r'
end

/-! ### another wish about exceptions -/
abbrev Cx.wish (X : Cx) (E : Value → Shared → Prop) : Cx := { X with xe := E }
/-- no exception leaves -/
abbrev Cx.nox (X : Cx) : Cx := X.wish fun _ _ => False
theorem Cx.Ok.wish {X : Cx} (ok : X.Ok) (E : Value → Shared → Prop) : (X.wish E).Ok :=
  ⟨ok.mod, ok.kind, ok.glob, ok.blt, ok.above, ok.inj, ok.has, ok.cab, ok.hd, ok.frames, ok.stk, ok.exf, ok.bs, ok.bsz, ok.noex, ok.exfs, ok.funs, ok.frf⟩
theorem Cx.Ok.unwish {X : Cx} {E : Value → Shared → Prop} (ok : (X.wish E).Ok) : X.Ok :=
  ⟨ok.mod, ok.kind, ok.glob, ok.blt, ok.above, ok.inj, ok.has, ok.cab, ok.hd, ok.frames, ok.stk, ok.exf, ok.bs, ok.bsz, ok.noex, ok.exfs, ok.funs, ok.frf⟩
section
variable {X : Cx} {pins : List (Addr × Obj)} {σ : St} {H : Hp} {s : Shared} {E : Value → Shared → Prop}
theorem Inv.wish (I : Inv X pins σ H s) (E : Value → Shared → Prop) : Inv (X.wish E) pins σ H s := ⟨I.ok.wish E, I.os, I.bare, I.base, I.loc, I.cell, I.free, I.freeC, I.pin, I.hok, I.len⟩
theorem Inv.unwish (I : Inv (X.wish E) pins σ H s) : Inv X pins σ H s := ⟨I.ok.unwish, I.os, I.bare, I.base, I.loc, I.cell, I.free, I.freeC, I.pin, I.hok, I.len⟩
theorem SP.unwish {D : Ends} {f : Flow} {s' : Shared} (h : SP (X.wish E) pins D f s') : SP X pins D f s' := by
  cases f with
  | next => obtain ⟨σ', H', I, q⟩ := h; exact ⟨σ', H', I.unwish, q⟩
  | brk => obtain ⟨σ', H', I, q⟩ := h; exact ⟨σ', H', I.unwish, q⟩
  | cont => obtain ⟨σ', H', I, q⟩ := h; exact ⟨σ', H', I.unwish, q⟩
  | ret u => obtain ⟨v, σ', H', I, r, q⟩ := h; exact ⟨v, σ', H', I.unwish, r, q⟩
theorem PSs.nox {st : List Stmt} {t : TS} (h : PSs X.nox st t) : PSs X st t := fun pins s σ H D I hw =>
  wpAny_mono (h pins s σ H D (I.wish _) hw) (fun _ _ q => q.unwish) fun _ _ z => False.elim z
end

/-! ### blocks and small statements -/
section
variable {X : Cx} {st : Stmt} {rest : List Stmt} {t u : TS} {e : Expr} {te : TE} {pos : Pos}
def tNext : TS := fun D σ H => D.nx σ H
def tSeq (t u : TS) : TS := fun D σ H => t { D with nx := u D } σ H
theorem pss_nil : PSs X [] tNext := fun _ _ σ H _ I h => wpAny_execs_nil ⟨σ, H, I, h⟩
theorem pss_cons (h1 : PS X st t) (h2 : PSs X rest u) : PSs X (st :: rest) (tSeq t u) := by
  intro pins s σ H D I h
  refine wpAny_execs_cons (thn (h1 pins s σ H { D with nx := u D } I h) fun f s1 q => ?_)
  cases f with
  | next =>
    obtain ⟨σ', H', I', q⟩ := q
    exact h2 pins s1 σ' H' D I' q
  | ret v => exact q
  | brk => exact q
  | cont => exact q
def tBreak : TS := fun D σ H => D.bk σ H
def tCont : TS := fun D σ H => D.ct σ H
theorem ps_pass : PS X (.Pass pos) tNext := fun _ _ σ H _ I h => wpAny_Pass ⟨σ, H, I, h⟩
theorem ps_break : PS X (.Break pos) tBreak := fun _ _ σ H _ I h => wpAny_Break ⟨σ, H, I, h⟩
theorem ps_continue : PS X (.Continue pos) tCont := fun _ _ σ H _ I h => wpAny_Continue ⟨σ, H, I, h⟩
/-- in a def's body nothing is shown -/
theorem Inv.quiet {pins : List (Addr × Obj)} {σ : St} {H : Hp} {s : Shared} (I : Inv X pins σ H s) : interactive X.env = false := by simp [interactive, I.ok.kind]
/-- an expression whose value is dropped -/
def tDrop (te : TE) : TS := fun D σ H => te σ H fun _ H1 => D.nx σ H1
theorem ps_expr (he : PE X e te) (hs : swapsWith e none pos.line X.env = pure false := by rfl) : PS X (.Expr e pos) (tDrop te) := by
  intro pins s σ H D I h
  exact wpAny_Expr_any (thn (he pins s σ H _ I h) fun v s1 ⟨x, H1, I1, r1, q1⟩ => ⟨σ, H1, I1, q1⟩) I.quiet hs
def tRet (te : TE) : TS := fun D σ H => te σ H D.rt
theorem ps_ret (he : PE X e te) : PS X (.Return (some e) pos) (tRet te) := by
  intro pins s σ H D I h
  exact wpAny_Return_some (thn (he pins s σ H _ I h) fun v s1 ⟨x, H1, I1, r1, q1⟩ => ⟨x, σ, H1, I1, r1, q1⟩)
def tRetN : TS := fun D _ H => D.rt .non H
theorem ps_retN : PS X (.Return none pos) tRetN := fun _ _ σ H _ I h => wpAny_Return_none ⟨.non, σ, H, I, rfl, h⟩
def tIfS (c : TT) (t u : TS) : TS := fun D σ H => c σ H fun b H1 => if b = true then t D σ H1 else u D σ H1
theorem ps_if {c : Expr} {a b : List Stmt} {tc : TT} (hc : PT X c tc) (ha : PSs X a t) (hb : PSs X b u) : PS X (.If c a b pos) (tIfS tc t u) := by
  intro pins s σ H D I h
  refine wpAny_If (thn (hc pins s σ H _ I h) fun d s1 ⟨H1, I1, q1⟩ => ?_)
  cases d with
  | true => exact ha pins s1 σ H1 D I1 q1
  | false => exact hb pins s1 σ H1 D I1 q1
/-- code that the proof never comes to -/
def tNever : TS := fun _ _ _ => False
theorem ps_never : PS X st tNever := fun _ _ _ _ _ _ h => h.elim
end

/-! ### targets -/
abbrev TG := V → St → Hp → (St → Hp → Prop) → Prop
abbrev TGs := List V → St → Hp → (St → Hp → Prop) → Prop
def PG (X : Cx) (target : Expr) (t : TG) : Prop :=
  ∀ (pins : List (Addr × Obj)) (s : Shared) (σ : St) (H : Hp) (v : V) (u : Value) (Q : St → Hp → Prop), Inv X pins σ H s → RelV v u → t v σ H Q →
    wpAny (model X.prog X.w) X.A (assign target X.env u) (fun _ s' => ∃ σ' H', Inv X pins σ' H' s' ∧ Q σ' H') X.xe s
/-- several targets, one after another -/
def PGs (X : Cx) (ts : List Expr) (t : TGs) : Prop :=
  ∀ (pins : List (Addr × Obj)) (s : Shared) (σ : St) (H : Hp) (vs : List V) (us : List Value) (Q : St → Hp → Prop), Inv X pins σ H s → Vals vs us → t vs σ H Q →
    wpAny (model X.prog X.w) X.A (assignInOrder ((assignEach ts X.env).map (·.2)) us) (fun _ s' => ∃ σ' H', Inv X pins σ' H' s' ∧ Q σ' H') X.xe s
/-- o[i] = v, by values -/
abbrev TSet := V → V → V → Hp → (Hp → Prop) → Prop
def PSet (X : Cx) (t : TSet) : Prop :=
  ∀ (pins : List (Addr × Obj)) (s : Shared) (σ : St) (H : Hp) (o i v : V) (ov iv u : Value) (Q : Hp → Prop), Inv X pins σ H s → RelV o ov → RelV i iv → RelV v u → t o i v H Q →
    wpAny (model X.prog X.w) X.A (setItem ov iv u) (fun _ s' => ∃ H', Inv X pins σ H' s' ∧ Q H') X.xe s
/-- a op= b, by values -/
abbrev TIp := V → V → Hp → VK → Prop
def PIp (X : Cx) (op : Operator) (t : TIp) : Prop :=
  ∀ (pins : List (Addr × Obj)) (s : Shared) (σ : St) (H : Hp) (x y : V) (v u : Value) (Q : VK), Inv X pins σ H s → RelV x v → RelV y u → t x y H Q →
    wpAny (model X.prog X.w) X.A (inplaceOp op v u) (EP X pins σ Q) X.xe s
section
variable {X : Cx} {pos : Pos}
def gName (i : Nat) : TG := fun v σ H Q => Q (σ.set i (some v)) H
theorem pg_name {i : Nat} {x : Str} (hN : X.N.Nodup) (hi : X.N[i]? = some x) (hx : Loc X.env.scope x) (hf : X.fn x = true ∨ X.env.scope.names.lookup x = some .local := by first | exact .inl rfl | exact .inr rfl | assumption) : PG X (.Name x pos) (gName i) := by
  intro pins s σ H v u Q I r h
  exact wpAny_assign_Name (store_ok I hN hi hx r (fun s' I' => ⟨_, H, I', h⟩) hf)
def gNil : TGs := fun vs σ H Q => vs = [] ∧ Q σ H
def gCons (t : TG) (u : TGs) : TGs := fun vs σ H Q => ∃ v r, vs = v :: r ∧ t v σ H fun σ' H' => u r σ' H' Q
theorem pgs_nil : PGs X [] gNil := by
  intro pins s σ H vs us Q I r h
  obtain ⟨e, h⟩ := h
  subst e
  cases r
  exact assignInOrder_nil ⟨σ, H, I, h⟩
theorem pgs_cons {e : Expr} {es : List Expr} {t : TG} {u : TGs} (h1 : PG X e t) (h2 : PGs X es u)
    (hs : (assignEach (e :: es) X.env).map (·.2) = assign e X.env :: (assignEach es X.env).map (·.2) := by rfl) : PGs X (e :: es) (gCons t u) := by
  intro pins s σ H vs us Q I r h
  obtain ⟨v, vr, e1, h⟩ := h
  subst e1
  cases r with
  | cons r rr =>
    rw [hs]
    refine assignInOrder_cons (thn (h1 pins s σ H _ _ _ I r h) fun _ s1 ⟨σ1, H1, I1, q1⟩ => ?_)
    exact h2 pins s1 σ1 H1 _ _ Q I1 rr q1
/-- (a, b, ..) = a tuple of that length -/
def gTup (K : PySem.W.Frag) (n : Nat) (t : TGs) : TG := fun v σ H Q => ∃ a xs, v = .ref a ∧ SqT K H a xs ∧ xs.length = n ∧ t xs σ H Q
theorem pg_tup {es : List Expr} {k : Nat} {t : TGs} {n : Nat} (hc : X.calm = true) (h : PGs X es t)
    (hn : (assignEach es X.env).length = n := by rfl) (hst : (assignEach es X.env).findIdx? (·.1) = none := by rfl) : PG X (.Tuple es k pos) (gTup X.K n t) := by
  intro pins s σ H v u Q I r hw
  obtain ⟨a, xs, e1, hq, hl, hw⟩ := hw
  subst e1
  cases r
  obtain ⟨its, rv, ht, hz⟩ := I.tuple hq
  refine assign_Tuple_tuple (I.ok.hd hc) ht (by simp [hn, ← hl, rv.length]) hst fun h' hx => ?_
  have I1 : Inv X pins σ H { s with heap := h' } := I.kept (t' := s.toks) fun b o e => hx b o (Nat.ne_of_lt (Heap.lt_size e)) e
  exact h pins _ σ H xs _ Q I1 (by simpa using rv) hw
/-- o[i] = .. -/
def gSub (to ti : TE) (t : TSet) : TG := fun v σ H Q => to σ H fun o H1 => ti σ H1 fun i H2 => t o i v H2 fun H3 => Q σ H3
theorem pg_sub {o i : Expr} {to ti : TE} {t : TSet} (ho : PE X o to) (hi : PE X i ti) (hs : PSet X t)
    (ha : ∀ v, assign (.Subscript o i pos) X.env v = (do
      let ov ← holding [v] (eval o X.env)
      let iv ← holding [v, ov] (eval i X.env)
      standAt pos
      holding [v, ov, iv] (setItem ov iv v)
      release [v, ov, iv] []) := by intro _; rfl) : PG X (.Subscript o i pos) (gSub to ti t) := by
  intro pins s σ H v u Q I r h
  rw [ha]
  refine wpAny_bind (wpAny_holding (thn (ho pins s σ H _ I h) fun ov s1 ⟨x, H1, I1, r1, q1⟩ => ?_))
  refine wpAny_bind (wpAny_holding (thn (hi pins s1 σ H1 _ I1 q1) fun iv s2 ⟨y, H2, I2, r2, q2⟩ => ?_))
  refine wpAny_bind (wpAny_standAt (wpAny_bind (wpAny_holding (thn (hs pins s2 σ H2 x y v ov iv u _ I2 r1 r2 r q2) fun _ s3 ⟨H3, I3, q3⟩ => ?_))))
  exact wpAny_release ⟨σ, H3, I3, q3⟩
/-- target = value -/
def tAsg (te : TE) (g : TG) : TS := fun D σ H => te σ H fun x H1 => g x σ H1 D.nx
theorem ps_asg {tg e : Expr} {te : TE} {g : TG} (he : PE X e te) (hg : PG X tg g) (hs : swapsWithSole [tg] e pos.line X.env = pure false := by rfl) (hw : swappedStores [tg] e X.env = pure none := by rfl)
    (h1 : (assignEach [tg] X.env).map (·.2) = [assign tg X.env] := by rfl) : PS X (.Assign [tg] e pos) (tAsg te g) := by
  intro pins s σ H D I h
  refine wpAny_Assign_stores (thn (he pins s σ H _ I h) fun v s1 ⟨x, H1, I1, r1, q1⟩ => ?_) hs hw
  rw [h1]
  exact thn (hg pins s1 σ H1 x v _ I1 r1 q1) fun _ s2 q => q
/-- name = value -/
theorem ps_set {i : Nat} {x : Str} {e : Expr} {te : TE} {pos' : Pos} (hN : X.N.Nodup) (hi : X.N[i]? = some x) (hx : Loc X.env.scope x) (he : PE X e te) (hs : swapsWith e (some (.Name x pos')) pos.line X.env = pure false := by rfl) (hf : X.fn x = true ∨ X.env.scope.names.lookup x = some .local := by first | exact .inl rfl | exact .inr rfl | assumption) :
    PS X (.Assign [.Name x pos'] e pos) (tAsg te (gName i)) := by
  intro pins s σ H D I h
  refine wpAny_Assign_Name (thn (he pins s σ H _ I h) fun v s1 ⟨y, H1, I1, r1, q1⟩ => ?_) hs
  exact store_ok I1 hN hi hx r1 (fun s2 I2 => ⟨_, H1, I2, q1⟩) hf
/-- a, b = x, y with plain local names: stored from the right; the pair itself is not tracked (the opening rows as in PyProof/Rows/TupAssign.lean:23) -/
def tPar (i j : Nat) (ta : TA) : TS := fun D σ H => ta σ H fun vs H1 => ∃ v w, vs = [v, w] ∧ D.nx ((σ.set i (some v)).set j (some w)) H1
theorem ps_par {i j : Nat} {x y : Str} {a b : Expr} {ta : TA} {px py pt : Pos} {kt k2 pt2} (hc : X.calm = true) (hN : X.N.Nodup) (hi : X.N[i]? = some x) (hj : X.N[j]? = some y) (hij : i ≠ j)
    (hx : X.env.scope.names.lookup x = some .local) (hy : X.env.scope.names.lookup y = some .local) (ha : PA X [a, b] ta)
    (hw : swappedStores [.Tuple [.Name x px, .Name y py] kt pt] (.Tuple [a, b] k2 pt2) X.env = pure (some [x, y]))
    (hs : swapsWithSole [.Tuple [.Name x px, .Name y py] kt pt] (.Tuple [a, b] k2 pt2) pos.line X.env = pure false := by rfl) :
    PS X (.Assign [.Tuple [.Name x px, .Name y py] kt pt] (.Tuple [a, b] k2 pt2) pos) (tPar i j ta) := by
  intro pins s σ H D I h
  rw [exec_Assign_arm]
  refine wpAny_bind (wpAny_standAt ?_)
  rw [hs]
  refine wpAny_bind (wpAny_pure ?_)
  rw [if_neg (by decide)]
  refine wpAny_bind (Tuple_ (thn (ha _ pins s σ H _ I h) fun us s1 ⟨vs, H1, I1, r1, q1⟩ => ?_))
  obtain ⟨v, w, e1, q1⟩ := q1
  subst e1
  obtain ⟨u1, u2, rfl, rv, rw'⟩ : ∃ u1 u2, us = [u1, u2] ∧ RelV v u1 ∧ RelV w u2 := by
    cases r1 with
    | cons p q =>
      cases q with
      | cons p' q' =>
        cases q'
        exact ⟨_, _, rfl, p, p'⟩
  refine wpAny_newObj_type ?_ (by show 2 ≤ sizeLine; decide)
  have I2 : Inv X pins σ H1 { s1 with heap := s1.heap.push { cls := .type "tuple", data := .seq [u1, u2].toArray } } := I1.kept (t' := s1.toks) fun b o e => Heap.get?_push_of_some _ e
  rw [hw]
  refine wpAny_bind (wpAny_pure ?_)
  show wpAny (model X.prog X.w) X.A (do rule "assign.swapped-stores"; let items ← unpackItems (.ref s1.heap.objs.size) 2 none; assignInOrder [fun v => bindName X.env y v, fun v => bindName X.env x v] items.reverse; pure Flow.next) _ _ _
  refine wpAny_bind (wpAny_rule (wpAny_bind (unpackItems_tuple (items := #[u1, u2]) (I.ok.hd hc) (IsTup.new s1.heap _) fun h' hx' => ?_)))
  have I3 := I2.kept (h' := h') (t' := s1.toks) fun b o e => hx' b o (Nat.ne_of_lt (Heap.lt_size e)) e
  show wpAny _ _ (assignInOrder [fun v => bindName X.env y v, fun v => bindName X.env x v] [u2, u1] >>= fun _ => pure Flow.next) _ _ _
  refine wpAny_bind (assignInOrder_cons (wpAny_bindName (store_ok I3 hN hj (.inl hy) rw' (fun s2 I4 => ?_) (.inr hy))))
  refine assignInOrder_cons (wpAny_bindName (store_ok I4 hN hi (.inl hx) rv (fun s3 I5 => assignInOrder_nil (wpAny_pure ?_)) (.inr hx)))
  rw [List.set_comm _ _ (Ne.symm hij)] at I5
  exact ⟨_, H1, I5, q1⟩
/-- name op= e -/
def tAug (i : Nat) (te : TE) (ti : TIp) : TS := fun D σ H => ∃ x, σ[i]? = some (some x) ∧ te σ H fun y H1 => ti x y H1 fun z H2 => D.nx (σ.set i (some z)) H2
theorem ps_aug {i : Nat} {x : Str} {e : Expr} {te : TE} {op : Operator} {ti : TIp} {pos' : Pos} (hN : X.N.Nodup) (hi : X.N[i]? = some x) (hx : Loc X.env.scope x) (he : PE X e te) (ho : PIp X op ti) (hf : X.fn x = true ∨ X.env.scope.names.lookup x = some .local := by first | exact .inl rfl | exact .inr rfl | assumption) :
    PS X (.AugAssign (.Name x pos') op e pos) (tAug i te ti) := by
  intro pins s σ H D I h
  obtain ⟨v, e1, h⟩ := h
  obtain ⟨m, hn, hl⟩ := I.loc
  have vis : Vis X.env.scope x := by rcases hx with k | k; exact .inl k; exact .inr (.inl k)
  obtain ⟨u, r, l⟩ := hl i x v hi e1 vis
  refine wpAny_AugAssign_Name ?_
  have go : wpAny (model X.prog X.w) X.A (eval e X.env) (fun w s₂ => wpAny (model X.prog X.w) X.A (inplaceOp op u w) (fun r s₃ => wpAny (model X.prog X.w) X.A (storeName X.env x r) (fun _ => SP X pins D .next) X.xe s₃) X.xe s₂) X.xe s := by
    refine thn (he pins s σ H _ I h) fun w s1 ⟨y, H1, I1, r1, q1⟩ => ?_
    refine thn (ho pins s1 σ H1 v y u w _ I1 r r1 q1) fun z s2 ⟨zv, H2, I2, r2, q2⟩ => ?_
    exact store_ok I2 hN hi hx r2 (fun s3 I3 => ⟨_, H2, I3, q2⟩) hf
  rcases l with ⟨hk, hm⟩ | ⟨hk, c, hc, hcell⟩
  · exact wpAny_loadName_local I.ok.kind hk hn hm go
  · rcases hk with hk | hk
    · exact wpAny_loadName_cell I.ok.kind hk hc hcell go
    · rcases hx with k | k
      · have : X.env.scope.names.lookup x = some .free := hk
        rw [k] at this; cases this
      · have : X.env.scope.names.lookup x = some .free := hk
        rw [k] at this; cases this
/-- o[i] op= e -/
def tAugS (to ti te : TE) (tget : V → V → Hp → VK → Prop) (tip : TIp) (tset : TSet) : TS := fun D σ H => to σ H fun o H1 => ti σ H1 fun i H2 => tget o i H2 fun x H3 => te σ H3 fun y H4 => tip x y H4 fun z H5 => tset o i z H5 fun H6 => D.nx σ H6
/-- o[i], by values -/
def PGet (X : Cx) (t : V → V → Hp → VK → Prop) : Prop :=
  ∀ (pins : List (Addr × Obj)) (s : Shared) (σ : St) (H : Hp) (o i : V) (ov iv : Value) (Q : VK), Inv X pins σ H s → RelV o ov → RelV i iv → t o i H Q →
    wpAny (model X.prog X.w) X.A (getItem ov iv) (EP X pins σ Q) X.xe s
theorem ps_augS {o i e : Expr} {to ti te : TE} {tget : V → V → Hp → VK → Prop} {tip : TIp} {tset : TSet} {op : Operator} {tpos : Pos} (ho : PE X o to) (hi : PE X i ti) (hg : PGet X tget) (he : PE X e te) (hp : PIp X op tip) (hs : PSet X tset)
    (ha : ∀ ov iv new, augStore i ov iv new = (do holding [new, ov, iv] (setItem ov iv new); release [new, ov, iv] []; pure .next) := by intros; rfl) : PS X (.AugAssign (.Subscript o i tpos) op e pos) (tAugS to ti te tget tip tset) := by
  intro pins s σ H D I h
  refine wpAny_AugAssign_SubscriptAny (thn (ho pins s σ H _ I h) fun ov s1 ⟨x1, H1, I1, r1, q1⟩ => ?_) ha
  refine thn (hi pins s1 σ H1 _ I1 q1) fun iv s2 ⟨x2, H2, I2, r2, q2⟩ => ?_
  refine thn (hg pins s2 σ H2 x1 x2 ov iv _ I2 r1 r2 q2) fun old s3 ⟨x3, H3, I3, r3, q3⟩ => ?_
  refine thn (he pins s3 σ H3 _ I3 q3) fun v s4 ⟨x4, H4, I4, r4, q4⟩ => ?_
  refine thn (hp pins s4 σ H4 x3 x4 old v _ I4 r3 r4 q4) fun new s5 ⟨x5, H5, I5, r5, q5⟩ => ?_
  exact thn (hs pins s5 σ H5 x1 x2 x5 ov iv new _ I5 r1 r2 r5 q5) fun _ s6 ⟨H6, I6, q6⟩ => ⟨σ, H6, I6, q6⟩
end

/-! ### while -/
section
variable {X : Cx} {pos : Pos}
/-- the invariant W with its measure -/
def tWhile (c : TT) (tb : TS) : TS := fun D σ H => ∃ W : Nat → St → Hp → Prop, (∃ m, W m σ H) ∧ ∀ m σ H, W m σ H →
  c σ H fun b H1 => if b = true then ∃ N : St → Hp → Prop, (∀ σ' H', N σ' H' → ∃ m', m' < m ∧ W m' σ' H') ∧ tb { D with nx := N, ct := N, bk := D.nx } σ H1 else D.nx σ H1
theorem ps_while {c : Expr} {body : List Stmt} {tc : TT} {tb : TS} (hp : PassesOwn (model X.prog X.w) X.A X.env X.xe) (hc : PT X c tc) (hb : PSs X body tb) : PS X (.While c body [] pos) (tWhile tc tb) := by
  intro pins s σ H D I h
  obtain ⟨W, ⟨m0, w0⟩, turn⟩ := h
  refine wpAny_While (codeAny_whileLoop (fun n s' => ∃ σ' H', Inv X pins σ' H' s' ∧ W n σ' H') ?_ m0 ⟨σ, H, I, w0⟩)
  rintro n s1 ⟨σ1, H1, I1, w1⟩
  refine wpAny_passesOwn hp (thn (hc pins s1 σ1 H1 _ I1 (turn n σ1 H1 w1)) fun b s2 ⟨H2, I2, q2⟩ => ?_)
  cases b with
  | true =>
    obtain ⟨N, hN, q2⟩ := q2
    rw [if_pos rfl]
    refine wpAny_passesOwn hp (thn (hb pins s2 σ1 H2 _ I2 q2) fun f s3 q3 => ?_)
    cases f with
    | next =>
      obtain ⟨σ3, H3, I3, n3⟩ := q3
      obtain ⟨m', hm, w3⟩ := hN σ3 H3 n3
      exact ⟨m', hm, σ3, H3, I3, w3⟩
    | cont =>
      obtain ⟨σ3, H3, I3, n3⟩ := q3
      obtain ⟨m', hm, w3⟩ := hN σ3 H3 n3
      exact ⟨m', hm, σ3, H3, I3, w3⟩
    | brk => exact q3
    | ret v => exact q3
  | false =>
    rw [if_neg Bool.false_ne_true]
    exact wpAny_execs_nil ⟨σ1, H2, I2, q2⟩
end

/-! ### what a loop or a comprehension walks -/
/-- at turn i: it yields x (the heap may grow), or it stops -/
structure It where
  go : Nat → Hp → Prop
  yld : Nat → Hp → V → Hp → Prop
  stop : Nat → Hp → Prop
/-- the iterator's own objects may turn: they are not the frame's, not pinned, younger than the entry (or a comprehension's own) -/
def FpOk (X : Cx) (pins : List (Addr × Obj)) (H : Hp) (b : Addr) : Prop :=
  H b = none ∧ b ≠ X.env.locals ∧ b ∉ X.fs ∧ (b ∈ X.ex ∨ X.s_0.heap.objs.size ≤ b) ∧ (∀ x c, X.env.cells.lookup x = some c → c ≠ b) ∧ ∀ p ∈ X.pn ++ pins, p.1 ≠ b
theorem Inv.fpOk {X : Cx} {pins : List (Addr × Obj)} {σ : St} {H H' : Hp} {s : Shared} {b : Addr} (I : Inv X pins σ H s) (hb : s.heap.objs.size ≤ b) (hn : H' b = none) : FpOk X pins H' b := by
  refine ⟨hn, Nat.ne_of_gt (Nat.lt_of_lt_of_le I.lt hb), I.nofs hb, .inr (Nat.le_trans I.sz hb), fun x c e z => ?_, fun p hp z => ?_⟩
  · obtain ⟨v, q⟩ := I.cell x c e
    exact absurd (Nat.lt_of_lt_of_le q.lt (by rw [z]; exact hb)) (Nat.lt_irrefl _)
  · exact absurd (Nat.lt_of_lt_of_le (Heap.lt_size (I.pin p hp).1) (by rw [z]; exact hb)) (Nat.lt_irrefl _)
structure Turn (P : Program) (w : World) (K : PySem.W.Frag) (tg : Expr) (J : It) (fp : List Addr) (it : Addr) (tn : Nat → Heap → Prop) : Prop where
  mem : it ∈ fp
  obj : ∀ i h, tn i h → ∀ b ∈ fp, ∃ o, h.get? b = some o ∧ ∀ v, o.data ≠ .cell v
  keep : ∀ i h h', tn i h → (∀ b ∈ fp, ∀ o, h.get? b = some o → h'.get? b = some o) → tn i h'
  item : ∀ (X : Cx), X.prog = P → X.w = w → X.K = K → X.calm = true → ∀ (i : Nat) (pins : List (Addr × Obj)) (s : Shared) (σ : St) (H : Hp) (E : Value → Shared → Prop), Inv X pins σ H s → (∀ b ∈ fp, FpOk X pins H b) → tn i s.heap → J.go i H →
    wpAny (model P w) X.A (pyNext (.ref it)) (fun r s1 => ∃ u, r = some u ∧
      wpAny (model P w) X.A (letOwnedTupleGo tg (.ref it) u) (fun _ s2 => ∃ x H', Inv X pins σ H' s2 ∧ RelV x u ∧ J.yld i H x H' ∧ tn (i + 1) s2.heap ∧ ∀ b ∈ fp, H' b = none) E s1) E s
  done : ∀ (X : Cx), X.prog = P → X.w = w → X.K = K → X.calm = true → ∀ (i : Nat) (pins : List (Addr × Obj)) (s : Shared) (σ : St) (H : Hp) (E : Value → Shared → Prop), Inv X pins σ H s → (∀ b ∈ fp, FpOk X pins H b) → tn i s.heap → J.stop i H →
    wpAny (model P w) X.A (pyNext (.ref it)) (fun r s1 => r = none ∧ Inv X pins σ H s1) E s
  self : ∀ (A : Around) (i : Nat) (s : Shared) (Q : Value → Shared → Prop) (E : Value → Shared → Prop), tn i s.heap → Q (.ref it) s → wpAny (model P w) A (pyIter (.ref it)) Q E s
abbrev TI := St → Hp → (It → Hp → Prop) → Prop
/-- an iterator has come -/
def PIE (X : Cx) (pins : List (Addr × Obj)) (σ : St) (tg : Expr) (R : It → Hp → Prop) (itv : Value) (s2 : Shared) : Prop :=
  ∃ (it : Addr) (fp : List Addr) (tn : Nat → Heap → Prop) (J : It) (H' : Hp), itv = .ref it ∧ Inv X pins σ H' s2 ∧ Turn X.prog X.w X.K tg J fp it tn ∧ tn 0 s2.heap ∧ (∀ b ∈ fp, FpOk X pins H' b) ∧ R J H'
def PI (X : Cx) (tg iter : Expr) (wi : TI) : Prop :=
  ∀ (pins : List (Addr × Obj)) (s : Shared) (σ : St) (H : Hp) (R : It → Hp → Prop), Inv X pins σ H s → wi σ H R →
    wpAny (model X.prog X.w) X.A (eval iter X.env) (fun v s1 => wpAny (model X.prog X.w) X.A (pyIter v) (PIE X pins σ tg R) X.xe s1) X.xe s

/-- the step ahead of the store is nothing for an iterator that keeps no tuple -/
theorem go_of {M : Model} {A : Around} {E : Value → Shared → Prop} {s : Shared} {tg : Expr} {it : Addr} {u : Value} {o : Obj} {n : String} {vs : Array Value} {Q : Unit → Shared → Prop} (ho : s.heap.get? it = some o) (hc : o.cls = .type n) (hd : o.data = .fields vs)
    (hn : ["enumerate", "zip", "dict_itemiterator", "dict_reverseitemiterator", "odict_iterator", "itertools.zip_longest", "itertools.pairwise"].contains n = false) (hQ : Q () s) : wpAny M A (letOwnedTupleGo tg (.ref it) u) Q E s := by
  unfold letOwnedTupleGo
  cases tg <;> first
    | exact wpAny_pure hQ
    | (cases u <;> first
        | exact wpAny_pure hQ
        | (refine wpAny_bind (wpAny_load ho ?_)
           rw [hc, hd]
           show wpAny M A (if (["enumerate", "zip", "dict_itemiterator", "dict_reverseitemiterator", "odict_iterator", "itertools.zip_longest", "itertools.pairwise"].contains n && vs[0]? == some (rawInt _)) = true then _ else _) Q E s
           rw [if_neg (by intro h; rw [hn, Bool.false_and] at h; cases h)]
           exact wpAny_pure hQ))

/-- the list at a, as it stands at each turn (a loop may append to it) -/
def Itl (K : PySem.W.Frag) (a : Addr) : It :=
  ⟨fun i H => ∃ xs x, SqL K H a xs ∧ xs[i]? = some x, fun i H x H' => H' = H ∧ ∀ xs, SqL K H a xs → xs[i]? = some x, fun i H => ∃ xs, SqL K H a xs ∧ xs.length ≤ i⟩
def Itt (K : PySem.W.Frag) (a : Addr) : It :=
  ⟨fun i H => ∃ xs x, SqT K H a xs ∧ xs[i]? = some x, fun i H x H' => H' = H ∧ ∀ xs, SqT K H a xs → xs[i]? = some x, fun i H => ∃ xs, SqT K H a xs ∧ xs.length ≤ i⟩
/-- lo, lo + 1, .. (n of them) -/
def Itr (lo : Int) (n : Nat) : It := ⟨fun i _ => i < n, fun i H x H' => H' = H ∧ x = .int (lo + i), fun i _ => n ≤ i⟩
theorem turn_list {P : Program} {w : World} {K : PySem.W.Frag} {tg : Expr} (a it : Addr) : Turn P w K tg (Itl K a) [it] it (fun i h => h.IsListIter it a i) where
  mem := by simp
  obj := fun i h st b hb => by
    have e : b = it := by simpa using hb
    subst e
    obtain ⟨o, e, c, d⟩ := st
    exact ⟨o, e, fun v z => by rw [d] at z; cases z⟩
  keep := fun i h h' st k => st.at fun o e => k it (by simp) o e
  item := by
    intro X hP hw hK hc i pins s σ H E I hf st hg
    subst hP hw hK
    obtain ⟨xs, x, hq, hx⟩ := hg
    obtain ⟨its, rv, p, hz⟩ := I.list hq
    obtain ⟨u, hu, ru⟩ := rv.get hx
    obtain ⟨f0, f1, f2, f3, f4, f5⟩ := hf it (by simp)
    refine wpAny_pyNext_list_item st p.isList (x := u) (by simpa using hu) fun h' st' sb => ?_
    have I1 : Inv X pins σ H { s with heap := h' } := I.turned (t' := s.toks) (fun b o hb e => (sb.2 b hb).trans e) f0 f1 f3 f4 f5
    obtain ⟨o, e, c, d⟩ := id st'
    exact ⟨u, rfl, go_of (s := { s with heap := h' }) e c d (by decide) ⟨x, H, I1, ru, ⟨rfl, fun ys hy => by rw [I.list_inj hy hq]; exact hx⟩, st', fun b hb => (hf b hb).1⟩⟩
  done := by
    intro X hP hw hK hc i pins s σ H E I hf st hg
    subst hP hw hK
    obtain ⟨xs, hq, hx⟩ := hg
    obtain ⟨its, rv, p, hz⟩ := I.list hq
    obtain ⟨f0, f1, f2, f3, f4, f5⟩ := hf it (by simp)
    have hl := rv.length
    exact wpAny_pyNext_list_end (I.ok.hd hc) st p.isList (by simp; omega) fun h' eb => ⟨rfl, I.turned (t' := s.toks) (fun b o hb e => eb b o hb e) f0 f1 f3 f4 f5⟩
  self := fun _ _ _ _ _ st h => wpAny_pyIter_listiter st h
theorem turn_tuple {P : Program} {w : World} {K : PySem.W.Frag} {tg : Expr} (a it : Addr) : Turn P w K tg (Itt K a) [it] it (fun i h => h.IsTupleIter it a i) where
  mem := by simp
  obj := fun i h st b hb => by
    have e : b = it := by simpa using hb
    subst e
    obtain ⟨o, e, c, d⟩ := st
    exact ⟨o, e, fun v z => by rw [d] at z; cases z⟩
  keep := fun i h h' st k => st.at fun o e => k it (by simp) o e
  item := by
    intro X hP hw hK hc i pins s σ H E I hf st hg
    subst hP hw hK
    obtain ⟨xs, x, hq, hx⟩ := hg
    obtain ⟨its, rv, p, hz⟩ := I.tuple hq
    obtain ⟨u, hu, ru⟩ := rv.get hx
    obtain ⟨f0, f1, f2, f3, f4, f5⟩ := hf it (by simp)
    refine wpAny_pyNext_tuple_item st (show s.heap.IsTuple a its.toArray from p) (x := u) (by simpa using hu) fun h' st' sb => ?_
    have I1 : Inv X pins σ H { s with heap := h' } := I.turned (t' := s.toks) (fun b o hb e => (sb.2 b hb).trans e) f0 f1 f3 f4 f5
    obtain ⟨o, e, c, d⟩ := id st'
    exact ⟨u, rfl, go_of (s := { s with heap := h' }) e c d (by decide) ⟨x, H, I1, ru, ⟨rfl, fun ys hy => by rw [I.tuple_inj hy hq]; exact hx⟩, st', fun b hb => (hf b hb).1⟩⟩
  done := by
    intro X hP hw hK hc i pins s σ H E I hf st hg
    subst hP hw hK
    obtain ⟨xs, hq, hx⟩ := hg
    obtain ⟨its, rv, p, hz⟩ := I.tuple hq
    obtain ⟨f0, f1, f2, f3, f4, f5⟩ := hf it (by simp)
    have hl := rv.length
    exact wpAny_pyNext_tuple_end (I.ok.hd hc) st (show s.heap.IsTuple a its.toArray from p) (by simp; omega) fun h' eb => ⟨rfl, I.turned (t' := s.toks) (fun b o hb e => eb b o hb e) f0 f1 f3 f4 f5⟩
  self := fun _ _ _ _ _ st h => wpAny_pyIter_tupleiter st h
theorem turn_range {P : Program} {w : World} {K : PySem.W.Frag} {tg : Expr} (it : Addr) (lo : Int) (n : Nat) : Turn P w K tg (Itr lo n) [it] it (fun i h => IsRangeIter h it (lo + (i : Nat) * 1) ((n : Int) - (i : Nat)) 1) where
  mem := by simp
  obj := fun i h st b hb => by
    have e : b = it := by simpa using hb
    subst e
    exact ⟨_, st, fun v z => by
      have z' : Data.fields _ = Data.cell v := z
      cases z'⟩
  keep := fun i h h' st k => k it (by simp) _ st
  item := by
    intro X hP hw hK hc i pins s σ H E I hf st hg
    subst hP hw hK
    obtain ⟨f0, f1, f2, f3, f4, f5⟩ := hf it (by simp)
    have W := Walks.range (prog := X.prog) (w := X.w) (I.ok.hd hc) it lo 1 n
    refine W.item i s _ _ hg st fun v h' tk hv st' kk => ?_
    obtain ⟨t, rfl⟩ := hv
    have I1 : Inv X pins σ H { s with heap := h', toks := tk } := I.turned (fun b o hb e => kk b o (by simpa using hb) e) f0 f1 f3 f4 f5
    refine ⟨_, rfl, go_of (s := { s with heap := h', toks := tk }) (n := "range_iterator") st' rfl rfl (by decide) ⟨.int (lo + i), H, I1, ⟨t, ?_⟩, ⟨rfl, rfl⟩, st', fun b hb => (hf b hb).1⟩⟩
    rw [Int.mul_one]
  done := by
    intro X hP hw hK hc i pins s σ H E I hf st hg
    subst hP hw hK
    obtain ⟨f0, f1, f2, f3, f4, f5⟩ := hf it (by simp)
    exact wpAny_pyNext_range_end (I.ok.hd hc) st (by have : n ≤ i := hg; omega) fun h' eb => ⟨rfl, I.turned (t' := s.toks) (fun b o hb e => eb b o hb e) f0 f1 f3 f4 f5⟩
  self := fun _ _ _ _ _ st h => wpAny_pyIter_rangeiter st h
end L2

namespace L2
open PySem PySem.Spec PyProof.Rows
section
variable {X : Cx} {tg : Expr}
def iList (K : PySem.W.Frag) (tl : TE) : TI := fun σ H R => tl σ H fun x H1 => ∃ a, x = .ref a ∧ (∃ xs, SqL K H1 a xs) ∧ R (Itl K a) H1
def iTup (K : PySem.W.Frag) (tl : TE) : TI := fun σ H R => tl σ H fun x H1 => ∃ a, x = .ref a ∧ (∃ xs, SqT K H1 a xs) ∧ R (Itt K a) H1
theorem pi_list {l : Expr} {tl : TE} (hl : PE X l tl) : PI X tg l (iList X.K tl) := by
  intro pins s σ H R I h
  refine thn (hl pins s σ H _ I h) fun v s1 ⟨x, H1, I1, r1, q1⟩ => ?_
  obtain ⟨a, e, ⟨xs, hq⟩, q⟩ := q1
  subst e
  cases r1
  obtain ⟨its, rv, p, hz⟩ := I1.list hq
  refine wpAny_pyIter_list p.isList ?_
  refine ⟨s1.heap.objs.size, [s1.heap.objs.size], _, _, H1, rfl, I1.kept (t' := s1.toks) fun b o e => Heap.get?_push_of_some _ e, turn_list a _, ⟨_, Heap.get?_push_size _ rfl, rfl, rfl⟩, fun b hb => ?_, q⟩
  have e : b = s1.heap.objs.size := by simpa using hb
  subst e
  exact I1.fpOk (Nat.le_refl _) (I1.hok.fresh (Nat.le_refl _))
theorem pi_tup {l : Expr} {tl : TE} (hl : PE X l tl) : PI X tg l (iTup X.K tl) := by
  intro pins s σ H R I h
  refine thn (hl pins s σ H _ I h) fun v s1 ⟨x, H1, I1, r1, q1⟩ => ?_
  obtain ⟨a, e, ⟨xs, hq⟩, q⟩ := q1
  subst e
  cases r1
  obtain ⟨its, rv, p, hz⟩ := I1.tuple hq
  refine wpAny_pyIter_tuple (show s1.heap.IsTuple a its.toArray from p) ?_
  refine ⟨s1.heap.objs.size, [s1.heap.objs.size], _, _, H1, rfl, I1.kept (t' := s1.toks) fun b o e => Heap.get?_push_of_some _ e, turn_tuple a _, ⟨_, Heap.get?_push_size _ rfl, rfl, rfl⟩, fun b hb => ?_, q⟩
  have e : b = s1.heap.objs.size := by simpa using hb
  subst e
  exact I1.fpOk (Nat.le_refl _) (I1.hok.fresh (Nat.le_refl _))
/-- a range object just made, walked -/
theorem range_it {pins : List (Addr × Obj)} {σ : St} {H : Hp} {s : Shared} {R : It → Hp → Prop} {E : Value → Shared → Prop} {lo hi : Int} {t u v : Tok} {tk : Nat} (I : Inv X pins σ H s) (h1 : -(2 ^ 62) ≤ lo) (h2 : lo < 2 ^ 62) (h3 : -(2 ^ 62) ≤ hi) (h4 : hi < 2 ^ 62)
    (q : R (Itr lo (hi - lo).toNat) H) : wpAny (model X.prog X.w) X.A (pyIter (.ref s.heap.objs.size)) (PIE X pins σ tg R) E { s with heap := s.heap.push { cls := .type "range", data := .fields #[.int lo t, .int hi u, .int 1 v] }, toks := tk } := by
  refine wpAny_pyIter_range (IsRange.new ..) (small_one h1 h2 h3 h4) ?_
  have I1 : Inv X pins σ H { s with heap := s.heap.push { cls := .type "range", data := .fields #[.int lo t, .int hi u, .int 1 v] }, toks := tk } := I.kept fun b o e => Heap.get?_push_of_some _ e
  refine ⟨(s.heap.push { cls := .type "range", data := .fields #[.int lo t, .int hi u, .int 1 v] }).objs.size, [(s.heap.push { cls := .type "range", data := .fields #[.int lo t, .int hi u, .int 1 v] }).objs.size], _, _, H, rfl,
    I1.kept (t' := tk) fun b o e => Heap.get?_push_of_some _ e, turn_range _ lo (hi - lo).toNat, ?_, fun b hb => ?_, q⟩
  · have e1 : lo + ((0 : Nat) : Int) * 1 = lo := by simp
    have e2 : (((hi - lo).toNat : Nat) : Int) - ((0 : Nat) : Int) = Builtin.Range.rangeSize lo hi 1 := by rw [rangeSize_one]; split <;> omega
    show IsRangeIter _ _ (lo + ((0 : Nat) : Int) * 1) ((((hi - lo).toNat : Nat) : Int) - ((0 : Nat) : Int)) 1
    rw [e1, e2]
    exact Heap.get?_push_size _ rfl
  · have e : b = (s.heap.push { cls := .type "range", data := .fields #[.int lo t, .int hi u, .int 1 v] }).objs.size := by simpa using hb
    subst e
    exact I1.fpOk (Nat.le_refl _) (I1.hok.fresh (Nat.le_refl _))
def iRng1 (ta : TA) : TI := fun σ H R => ta σ H fun vs H1 => ∃ j : Int, vs = [.int j] ∧ -(2 ^ 62) ≤ j ∧ j < 2 ^ 62 ∧ R (Itr 0 j.toNat) H1
def iRng2 (ta : TA) : TI := fun σ H R => ta σ H fun vs H1 => ∃ i j : Int, vs = [.int i, .int j] ∧ (-(2 ^ 62) ≤ i ∧ i < 2 ^ 62 ∧ -(2 ^ 62) ≤ j ∧ j < 2 ^ 62) ∧ R (Itr i (j - i).toNat) H1
theorem pi_range1 {a : Expr} {ta : TA} {p pos : Pos} (hg : Gl X "range") (hm : X.mg "range" = none) (ha : PA X [a] ta) (hs : starEach [a] X.env = [(false, eval a X.env)] := by rfl) : PI X tg (.Call (.Name "range" p) [a] [] pos) (iRng1 ta) := by
  intro pins s σ H R I h
  refine Call_ (ld_blt I hg hm boot_range (PyProof.Rows.callWith_type1 (thn (ha pos pins s σ H _ I h) fun us s1 ⟨vs, H1, I1, r1, q1⟩ => ?_) hs rfl))
  obtain ⟨j, e, q1, q2, q⟩ := q1
  subst e
  cases r1 with
  | cons r rr =>
    cases rr
    obtain ⟨t, rfl⟩ := r
    exact call_range_1 (range_it I1 (by omega) (by omega) q1 q2 (by simpa using q))
theorem pi_range2 {a b : Expr} {ta : TA} {p pos : Pos} (hg : Gl X "range") (hm : X.mg "range" = none) (ha : PA X [a, b] ta) (hs : starEach [a, b] X.env = [(false, eval a X.env), (false, eval b X.env)] := by rfl) (hs2 : starEach [b] X.env = [(false, eval b X.env)] := by rfl) :
    PI X tg (.Call (.Name "range" p) [a, b] [] pos) (iRng2 ta) := by
  intro pins s σ H R I h
  refine Call_ (ld_blt I hg hm boot_range (PyProof.Rows.callWith_type1 (thn (ha pos pins s σ H _ I h) fun us s1 ⟨vs, H1, I1, r1, q1⟩ => ?_) (by rw [hs, hs2]) (by rw [hs2]; rfl)))
  obtain ⟨i, j, e, ⟨q1, q2, q3, q4⟩, q⟩ := q1
  subst e
  cases r1 with
  | cons r rr =>
    cases rr with
    | cons r' rr =>
      cases rr
      obtain ⟨t, rfl⟩ := r
      obtain ⟨t', rfl⟩ := r'
      exact call_range_2 (range_it I1 q1 q2 q3 q4 q)

/-! ### for -/
/-- W: the invariant by the turn and a measure; N: what the body is to reach -/
def tFor (wi : TI) (g : TG) (tb : TS) : TS := fun D σ H => wi σ H fun J H1 => ∃ W : Nat → Nat → St → Hp → Prop, (∃ m, W 0 m σ H1) ∧ ∀ i m σ H, W i m σ H →
  (J.stop i H ∧ D.nx σ H) ∨ (J.go i H ∧ ∃ N : St → Hp → Prop, (∀ σ' H', N σ' H' → ∃ m', m' < m ∧ W (i + 1) m' σ' H') ∧ ∀ x H', J.yld i H x H' → g x σ H' fun σ2 H2 => tb { D with nx := N, ct := N, bk := D.nx } σ2 H2)
/-- the records at fp as they stand -/
def pinsAt (fp : List Addr) (h : Heap) : List (Addr × Obj) := fp.filterMap fun b => (h.get? b).map fun o => (b, o)
theorem mem_pinsAt {fp : List Addr} {h : Heap} {b : Addr} {o : Obj} (hb : b ∈ fp) (e : h.get? b = some o) : (b, o) ∈ pinsAt fp h := List.mem_filterMap.mpr ⟨b, hb, by rw [e]; rfl⟩
theorem of_pinsAt {fp : List Addr} {h : Heap} {p : Addr × Obj} (hp : p ∈ pinsAt fp h) : p.1 ∈ fp ∧ h.get? p.1 = some p.2 := by
  obtain ⟨b, hb, e⟩ := List.mem_filterMap.mp hp
  cases q : h.get? b with
  | none => rw [q] at e; cases e
  | some o =>
    rw [q] at e
    have e' : (b, o) = p := Option.some.inj e
    subst e'
    exact ⟨hb, q⟩
theorem Inv.pinned {pins : List (Addr × Obj)} {σ : St} {H : Hp} {s : Shared} {fp : List Addr} (I : Inv X pins σ H s) (hf : ∀ b ∈ fp, FpOk X pins H b) (ho : ∀ b ∈ fp, ∃ o, s.heap.get? b = some o ∧ ∀ v, o.data ≠ .cell v) : Inv X (pins ++ pinsAt fp s.heap) σ H s :=
  I.pins_of fun p hp => (List.mem_append.mp hp).elim (fun z => I.pin p (List.mem_append_right _ z)) fun z => by
    obtain ⟨hb, e⟩ := of_pinsAt z
    obtain ⟨f0, f1, f2, _⟩ := hf p.1 hb
    obtain ⟨o, e', d⟩ := ho p.1 hb
    rw [e] at e'; cases e'
    exact ⟨e, f0, f1, f2, d⟩
theorem Inv.unpinned {pins pl : List (Addr × Obj)} {σ : St} {H : Hp} {s : Shared} (I : Inv X (pins ++ pl) σ H s) : Inv X pins σ H s := I.pins_of fun p hp => I.pin p (List.mem_append_right _ (List.mem_append_left _ hp))
theorem ps_for {iter : Expr} {body : List Stmt} {wi : TI} {g : TG} {tb : TS} {pos : Pos} (hp : PassesOwn (model X.prog X.w) X.A X.env X.xe) (hc : X.calm = true) (hi : PI X tg iter wi) (hg : PG X tg g) (hb : PSs X body tb)
    (hs : ∀ x, foldedSetIterable iter X.env x = pure x := by intro _; rfl) : PS X (.For tg iter body [] pos) (tFor wi g tb) := by
  intro pins s σ H D I h
  refine wpAny_For (thn (hi pins s σ H _ I h) fun v s1 h1 => thn h1 fun itv s2 h2 => ?_) hs
  obtain ⟨it, fp, tn, J, H2, e, I2, T, st2, f2, W, ⟨m0, w0⟩, turn⟩ := h2
  subst e
  -- what stays true of the iterator's objects through the loop
  have stat : ∀ {H' : Hp}, (∀ b ∈ fp, H' b = none) → ∀ b ∈ fp, FpOk X pins H' b := fun hn b hb => ⟨hn b hb, (f2 b hb).2⟩
  refine codeAny_forLoop_any (fun n s' => ∃ i σ' H', Inv X pins σ' H' s' ∧ tn i s'.heap ∧ (∀ b ∈ fp, H' b = none) ∧ W i n σ' H') ?_ m0 ⟨0, σ, H2, I2, st2, fun b hb => (f2 b hb).1, w0⟩
  rintro n s3 ⟨i, σ3, H3, I3, st3, fr3, w3⟩
  rcases turn i n σ3 H3 w3 with ⟨stop, qn⟩ | ⟨go, N, hN, step⟩
  · refine wpAny_passesOwn hp (thn (T.done X rfl rfl rfl hc i pins s3 σ3 H3 X.xe I3 (stat fr3) st3 stop) fun r s4 ⟨hr, I4⟩ => ?_)
    subst hr
    exact wpAny_execs_nil ⟨σ3, H3, I4, qn⟩
  · refine wpAny_passesOwn hp (thn (T.item X rfl rfl rfl hc i pins s3 σ3 H3 X.xe I3 (stat fr3) st3 go) fun r s4 ⟨u, hr, h4⟩ => ?_)
    subst hr
    refine wpAny_passesOwn hp (thn h4 fun _ s5 ⟨x, H5, I5, r5, y5, st5, fr5⟩ => ?_)
    have I5' := I5.pinned (stat fr5) (T.obj _ _ st5)
    refine wpAny_passesOwn hp (thn (hg _ s5 σ3 H5 x u _ I5' r5 (step x H5 y5)) fun _ s6 ⟨σ6, H6, I6, q6⟩ => ?_)
    refine wpAny_passesOwn hp (thn (hb _ s6 σ6 H6 _ I6 q6) fun f s7 q7 => ?_)
    have again : ∀ {σ7 : St} {H7 : Hp}, Inv X (pins ++ pinsAt fp s5.heap) σ7 H7 s7 → N σ7 H7 → ∃ m, m < n ∧ ∃ i σ' H', Inv X pins σ' H' s7 ∧ tn i s7.heap ∧ (∀ b ∈ fp, H' b = none) ∧ W i m σ' H' := fun {σ7 H7} I7 n7 => by
      obtain ⟨m', hm, w7⟩ := hN σ7 H7 n7
      refine ⟨m', hm, i + 1, σ7, H7, I7.unpinned, T.keep _ _ _ st5 fun b hb o e => (I7.pin (b, o) (List.mem_append_right _ (List.mem_append_right _ (mem_pinsAt hb e)))).1, fun b hb => ?_, w7⟩
      obtain ⟨o, e, d⟩ := T.obj _ _ st5 b hb
      exact (I7.pin (b, o) (List.mem_append_right _ (List.mem_append_right _ (mem_pinsAt hb e)))).2.1
    cases f with
    | next => obtain ⟨σ7, H7, I7, n7⟩ := q7; exact again I7 n7
    | cont => obtain ⟨σ7, H7, I7, n7⟩ := q7; exact again I7 n7
    | brk => obtain ⟨σ7, H7, I7, q7⟩ := q7; exact ⟨σ7, H7, I7.unpinned, q7⟩
    | ret v => obtain ⟨x7, σ7, H7, I7, r7, q7⟩ := q7; exact ⟨x7, σ7, H7, I7.unpinned, r7, q7⟩
end

/-! ### the forms one uses -/
end L2

namespace L2
open PySem PySem.Spec PyProof.Rows

abbrev R2 := V → V → Hp → VK → Prop
/-- a two-place operation on values: f is binaryOp op, inplaceOp op or compareOp op -/
def OpR (X : Cx) (f : Value → Value → Sem Value) (r : R2) : Prop :=
  ∀ (pins : List (Addr × Obj)) (s : Shared) (σ : St) (H : Hp) (x y : V) (v u : Value) (Q : VK), Inv X pins σ H s → RelV x v → RelV y u → r x y H Q →
    wpAny (model X.prog X.w) X.A (f v u) (EP X pins σ Q) X.xe s
/-- a one-place operation -/
def UnR (X : Cx) (f : Value → Sem Value) (r : V → Hp → VK → Prop) : Prop :=
  ∀ (pins : List (Addr × Obj)) (s : Shared) (σ : St) (H : Hp) (x : V) (v : Value) (Q : VK), Inv X pins σ H s → RelV x v → r x H Q →
    wpAny (model X.prog X.w) X.A (f v) (EP X pins σ Q) X.xe s
/-- a call of a value that is known (a builtin, a type) with values -/
def CallR (X : Cx) (f : Value) (r : List V → Hp → VK → Prop) : Prop :=
  ∀ (pins : List (Addr × Obj)) (s : Shared) (σ : St) (H : Hp) (xs : List V) (us : List Value) (Q : VK), Inv X pins σ H s → Vals xs us → r xs H Q →
    wpAny (model X.prog X.w) X.A (call f us) (EP X pins σ Q) X.xe s
/-- a value's truth -/
def TruR (X : Cx) (r : V → Hp → (Bool → Hp → Prop) → Prop) : Prop :=
  ∀ (pins : List (Addr × Obj)) (s : Shared) (σ : St) (H : Hp) (x : V) (v : Value) (Q : Bool → Hp → Prop), Inv X pins σ H s → RelV x v → r x H Q →
    wpAny (model X.prog X.w) X.A (truthy v) (TP X pins σ Q) X.xe s

def tOp (r : R2) (ta tb : TE) : TE := fun σ H Q => ta σ H fun x H1 => tb σ H1 fun y H2 => r x y H2 Q
def tUn (r : V → Hp → VK → Prop) (ta : TE) : TE := fun σ H Q => ta σ H fun x H1 => r x H1 Q
/-- ints in, under C, and a value out -/
def rI (C : Int → Int → Prop) (g : Int → Int → V) : R2 := fun x y H Q => ∃ i j, x = .int i ∧ y = .int j ∧ C i j ∧ Q (g i j) H
def rI0 (g : Int → Int → V) : R2 := fun x y H Q => ∃ i j, x = .int i ∧ y = .int j ∧ Q (g i j) H
def rU (g : Int → V) : V → Hp → VK → Prop := fun x H Q => ∃ i, x = .int i ∧ Q (g i) H

section
variable {X : Cx} {a b c : Expr} {ta tb tc : TE} {pos : Pos}

theorem binT (ha : PE X a ta) (hb : PE X b tb) {pins : List (Addr × Obj)} {s : Shared} {σ : St} {H : Hp} {R : V → V → Hp → Prop} (I : Inv X pins σ H s)
    (h : ta σ H fun x H1 => tb σ H1 fun y H2 => R x y H2) {Q : Value → Shared → Prop} {f : Value → Value → Sem Value}
    (hf : ∀ v u s2 x y H2, Inv X pins σ H2 s2 → RelV x v → RelV y u → R x y H2 → wpAny (model X.prog X.w) X.A (f v u) Q X.xe s2) :
    wpAny (model X.prog X.w) X.A (eval a X.env) (fun v s₁ => wpAny (model X.prog X.w) X.A (eval b X.env) (fun u s₂ => wpAny (model X.prog X.w) X.A (f v u) Q X.xe s₂) X.xe s₁) X.xe s := by
  refine thn (ha pins s σ H _ I h) fun v s1 ⟨x, H1, I1, r1, q1⟩ => ?_
  refine thn (hb pins s1 σ H1 _ I1 q1) fun u s2 ⟨y, H2, I2, r2, q2⟩ => ?_
  exact hf v u s2 x y H2 I2 r1 r2 q2

theorem pe_op {op : Operator} {r : R2} (ho : OpR X (binaryOp op) r) (ha : PE X a ta) (hb : PE X b tb) : PE X (.BinOp a op b pos) (tOp r ta tb) := by
  intro pins s σ H Q I h
  exact wpAny_BinOp (binT ha hb I h fun v u s2 x y H2 I2 rx ry q => ho pins s2 σ H2 x y v u Q I2 rx ry q)
theorem pe_un {op : UnaryOp} {r : V → Hp → VK → Prop} (ho : UnR X (unaryOp op) r) (ha : PE X a ta) : PE X (.UnaryOp op a pos) (tUn r ta) := by
  intro pins s σ H Q I h
  exact UnaryOp_ (thn (ha pins s σ H _ I h) fun v s1 ⟨x, H1, I1, r1, q1⟩ => ho pins s1 σ H1 x v Q I1 r1 q1)

/-! ### ints -/
theorem opI {f : Value → Value → Sem Value} {C : Int → Int → Prop} {g : Int → Int → Int}
    (rule : ∀ (i j : Int) (t u : Tok) (s : Shared) (Q : Value → Shared → Prop) (E : Value → Shared → Prop), C i j → Q (.int (g i j) s.toks) { s with toks := s.toks + 1 } → wpAny (model X.prog X.w) X.A (f (.int i t) (.int j u)) Q E s) :
    OpR X f (rI C fun i j => .int (g i j)) := by
  intro pins s σ H x y v u Q I rx ry h
  obtain ⟨i, j, rfl, rfl, hc, q⟩ := h
  obtain ⟨t, rfl⟩ := rx
  obtain ⟨t', rfl⟩ := ry
  exact rule i j t t' s _ _ hc ⟨.int (g i j), H, I.tok _, ⟨_, rfl⟩, q⟩
theorem opI0 {f : Value → Value → Sem Value} {g : Int → Int → Int}
    (rule : ∀ (i j : Int) (t u : Tok) (s : Shared) (Q : Value → Shared → Prop) (E : Value → Shared → Prop), Q (.int (g i j) s.toks) { s with toks := s.toks + 1 } → wpAny (model X.prog X.w) X.A (f (.int i t) (.int j u)) Q E s) :
    OpR X f (rI0 fun i j => .int (g i j)) := by
  intro pins s σ H x y v u Q I rx ry h
  obtain ⟨i, j, rfl, rfl, q⟩ := h
  obtain ⟨t, rfl⟩ := rx
  obtain ⟨t', rfl⟩ := ry
  exact rule i j t t' s _ _ ⟨.int (g i j), H, I.tok _, ⟨_, rfl⟩, q⟩
theorem opB0 {f : Value → Value → Sem Value} {g : Int → Int → Bool}
    (rule : ∀ (i j : Int) (t u : Tok) (s : Shared) (Q : Value → Shared → Prop) (E : Value → Shared → Prop), Q (.bool (g i j)) s → wpAny (model X.prog X.w) X.A (f (.int i t) (.int j u)) Q E s) :
    OpR X f (rI0 fun i j => .bl (g i j)) := by
  intro pins s σ H x y v u Q I rx ry h
  obtain ⟨i, j, rfl, rfl, q⟩ := h
  obtain ⟨t, rfl⟩ := rx
  obtain ⟨t', rfl⟩ := ry
  exact rule i j t t' s _ _ ⟨.bl (g i j), H, I, rfl, q⟩

def CMul (i j : Int) : Prop := (-(2 ^ 64) < i ∧ i < 2 ^ 64) ∨ (-(2 ^ 64) < j ∧ j < 2 ^ 64)
theorem CMul.ok {i j : Int} (h : CMul i j) : IntMulOk i j := by
  rcases h with ⟨h1, h2⟩ | ⟨h1, h2⟩
  · exact .of_left (intBits_le_64 h1 h2)
  · exact .of_right (intBits_le_64 h1 h2)
theorem two_pow_nn (k : Nat) : (0 : Int) ≤ 2 ^ k := by
  rw [two_pow_cast]
  exact Int.natCast_nonneg _

theorem op_add : OpR X (binaryOp .Add) (rI0 fun i j => .int (i + j)) := opI0 fun _ _ _ _ _ _ _ q => add_int q
theorem op_sub : OpR X (binaryOp .Sub) (rI0 fun i j => .int (i - j)) := opI0 fun _ _ _ _ _ _ _ q => sub_int q
theorem op_mul : OpR X (binaryOp .Mult) (rI CMul fun i j => .int (i * j)) := opI fun _ _ _ _ _ _ _ hc q => mul_int q hc.ok
/-- % by a positive divisor of any size -/
theorem op_mod : OpR X (binaryOp .Mod) (rI (fun _ j => 0 < j) fun i j => .int (i % j)) := opI fun i j _ _ _ _ _ hc q => by
  have h1 : (0 : Int) < j := hc
  exact mod_int' (by omega) (by rw [Int.fmod_eq_emod_of_nonneg i (by omega)]; exact q)
theorem op_shr : OpR X (binaryOp .RShift) (rI (fun _ j => 0 ≤ j) fun i j => .int (i / 2 ^ j.toNat)) := opI fun i j _ _ _ _ _ hc q =>
  rshift_int hc (by rw [Int.fdiv_eq_ediv_of_nonneg i (two_pow_nn _)]; exact q)
theorem op_and : OpR X (binaryOp .BitAnd) (rI0 fun i j => .int (Builtin.bitAnd i j)) := opI0 fun _ _ _ _ _ _ _ q => and_int q
theorem op_or : OpR X (binaryOp .BitOr) (rI0 fun i j => .int (Builtin.bitOr i j)) := opI0 fun _ _ _ _ _ _ _ q => or_int q

theorem iop_add : OpR X (inplaceOp .Add) (rI0 fun i j => .int (i + j)) := opI0 fun _ _ _ _ _ _ _ q => iadd_int q
theorem iop_sub : OpR X (inplaceOp .Sub) (rI0 fun i j => .int (i - j)) := opI0 fun _ _ _ _ _ _ _ q => isub_int q
theorem iop_mul : OpR X (inplaceOp .Mult) (rI CMul fun i j => .int (i * j)) := opI fun _ _ _ _ _ _ _ hc q => imul_int q hc.ok
theorem iop_and : OpR X (inplaceOp .BitAnd) (rI0 fun i j => .int (Builtin.bitAnd i j)) := opI0 fun _ _ _ _ _ _ _ q => iand_int q
theorem iop_or : OpR X (inplaceOp .BitOr) (rI0 fun i j => .int (Builtin.bitOr i j)) := opI0 fun _ _ _ _ _ _ _ q => ior_int q

theorem unI {f : Value → Sem Value} {g : Int → Int}
    (rule : ∀ (i : Int) (t : Tok) (s : Shared) (Q : Value → Shared → Prop) (E : Value → Shared → Prop), Q (.int (g i) s.toks) { s with toks := s.toks + 1 } → wpAny (model X.prog X.w) X.A (f (.int i t)) Q E s) :
    UnR X f (rU fun i => .int (g i)) := by
  intro pins s σ H x v Q I rx h
  obtain ⟨i, rfl, q⟩ := h
  obtain ⟨t, rfl⟩ := rx
  exact rule i t s _ _ ⟨.int (g i), H, I.tok _, ⟨_, rfl⟩, q⟩
theorem un_neg : UnR X (unaryOp .USub) (rU fun i => .int (-i)) := unI fun _ _ _ _ _ q => neg_int q

/-! ### bools among ints: n += (a < b) -/
end

/-! ### comparisons -/


section
variable {X : Cx} {a b c : Expr} {ta tb tc : TE} {pos : Pos}
theorem fin_bl {pins : List (Addr × Obj)} {σ : St} {H : Hp} {s : Shared} {Q : VK} {k k' : Bool} (I : Inv X pins σ H s) (q : Q (.bl k) H) (e : k = k') : EP X pins σ Q (.bool k') s := by
  subst e
  exact ⟨.bl k, H, I, rfl, q⟩

theorem op_lt : OpR X (compareOp .Lt) (rI0 fun i j => .bl (decide (i < j))) := opB0 fun _ _ _ _ _ _ _ q => lt_int q
theorem op_le : OpR X (compareOp .LtE) (rI0 fun i j => .bl (decide (i ≤ j))) := opB0 fun _ _ _ _ _ _ _ q => le_int q
theorem op_gt : OpR X (compareOp .Gt) (rI0 fun i j => .bl (decide (j < i))) := opB0 fun _ _ _ _ _ _ _ q => gt_int q
theorem op_ge : OpR X (compareOp .GtE) (rI0 fun i j => .bl (decide (j ≤ i))) := opB0 fun _ _ _ _ _ _ _ q => ge_int q

/-- is None, is not None: the right side a value none -/
theorem op_isN : OpR X (compareOp .Is) (fun x y H Q => y = .non ∧ Q (.bl (decide (x = .non))) H) := by
  intro pins s σ H x y v u Q I rx ry h
  obtain ⟨rfl, q⟩ := h
  cases ry
  refine is_none_gen (fin_bl I q ?_)
  cases x <;> first
    | (cases rx; rfl)
    | (obtain ⟨t, rfl⟩ := rx; rfl)
theorem op_notN : OpR X (compareOp .IsNot) (fun x y H Q => y = .non ∧ Q (.bl (!decide (x = .non))) H) := by
  intro pins s σ H x y v u Q I rx ry h
  obtain ⟨rfl, q⟩ := h
  cases ry
  refine isnot_none_gen (fin_bl I q ?_)
  cases x <;> first
    | (cases rx; rfl)
    | (obtain ⟨t, rfl⟩ := rx; rfl)

/-- is, is not of two objects that are tracked lists or instances -/
def isObj : HO → Bool
  | .lst _ => true
  | .ins _ _ _ => true
  | _ => false


theorem nomark (b : Expr) {op : CmpOp} (h : op ≠ .In := by decide) (h2 : op ≠ .NotIn := by decide) : behindInMarks op b = false := by
  have e1 : (op == CmpOp.In) = false := by cases op <;> first | rfl | exact absurd rfl h
  have e2 : (op == CmpOp.NotIn) = false := by cases op <;> first | rfl | exact absurd rfl h2
  cases b <;> simp [behindInMarks, e1, e2]
/-- a comparison as a value; hm: nomark b, or (for in, not in) by with_unfolding_all rfl -/
theorem pe_cmpR {op : CmpOp} {r : R2} (ho : OpR X (compareOp op) r) (ha : PE X a ta) (hb : PE X b tb) (hm : behindInMarks op b = false) : PE X (.Compare a [op] [b] pos) (tOp r ta tb) := by
  intro pins s σ H Q I h
  exact wpAny_Compare1 (binT ha hb I h fun v u s2 x y H2 I2 rx ry q => ho pins s2 σ H2 x y v u Q I2 rx ry q) hm
/-- a reading of a value as a test -/
def tTest (t : TE) : TT := fun σ H Q => t σ H fun x H' => ∃ k, x = .bl k ∧ Q k H'
theorem pt_cmpR {op : CmpOp} {r : R2} (ho : OpR X (compareOp op) r) (ha : PE X a ta) (hb : PE X b tb) (hm : behindInMarks op b = false) : PT X (.Compare a [op] [b] pos) (tTest (tOp r ta tb)) := by
  intro pins s σ H Q I h
  refine wpAny_isTrue_Compare1 (thn (ha pins s σ H _ I h) fun v s1 ⟨x, H1, I1, r1, q1⟩ => thn (hb pins s1 σ H1 _ I1 q1) fun u s2 ⟨y, H2, I2, r2, q2⟩ =>
    thn (ho pins s2 σ H2 x y v u _ I2 r1 r2 q2) fun c s3 ⟨z, H3, I3, r3, k, e, q3⟩ => ?_) hm
  subst e
  cases r3
  exact wpAny_truthy_bool ⟨H3, I3, q3⟩
/-- a op1 b op2 c -/
def tChain (r r' : R2) (ta tb tc : TE) : TE := fun σ H Q => ta σ H fun x H1 => tb σ H1 fun y H2 => r x y H2 fun z H3 => ∃ k, z = .bl k ∧
  (if k = true then tc σ H3 fun w' H4 => r' y w' H4 Q else Q (.bl false) H3)
theorem pe_chain {op op' : CmpOp} {r r' : R2} (ho : OpR X (compareOp op) r) (ho' : OpR X (compareOp op') r') (ha : PE X a ta) (hb : PE X b tb) (hc : PE X c tc)
    (hm : lastMarks [op, op'] [b, c] = false := by with_unfolding_all rfl) : PE X (.Compare a [op, op'] [b, c] pos) (tChain r r' ta tb tc) := by
  intro pins s σ H Q I h
  refine Compare_chain (thn (ha pins s σ H _ I h) fun v s1 ⟨x, H1, I1, r1, q1⟩ => chain_link (thn (hb pins s1 σ H1 _ I1 q1) fun u s2 ⟨y, H2, I2, r2, q2⟩ =>
    thn (ho pins s2 σ H2 x y v u _ I2 r1 r2 q2) fun d s3 ⟨z, H3, I3, r3, k, e, q3⟩ => ?_)) hm
  subst e
  cases r3
  refine wpAny_truthy_bool ?_
  cases k with
  | false => exact ite_ff ⟨.bl false, H3, I3, rfl, q3⟩
  | true => exact ite_tt (chain_last (thn (hc pins s3 σ H3 _ I3 q3) fun w' s4 ⟨z', H4, I4, r4, q4⟩ => ho' pins s4 σ H4 y z' u w' Q I4 r2 r4 q4))
theorem pt_chain {op op' : CmpOp} {r r' : R2} (ho : OpR X (compareOp op) r) (ho' : OpR X (compareOp op') r') (ha : PE X a ta) (hb : PE X b tb) (hc : PE X c tc)
    (hm : lastMarks [op, op'] [b, c] = false := by with_unfolding_all rfl) : PT X (.Compare a [op, op'] [b, c] pos) (tTest (tChain r r' ta tb tc)) := by
  intro pins s σ H Q I h
  refine isTrue_chain (thn (ha pins s σ H _ I h) fun v s1 ⟨x, H1, I1, r1, q1⟩ => test_link (thn (hb pins s1 σ H1 _ I1 q1) fun u s2 ⟨y, H2, I2, r2, q2⟩ =>
    thn (ho pins s2 σ H2 x y v u _ I2 r1 r2 q2) fun d s3 ⟨z, H3, I3, r3, k, e, q3⟩ => ?_)) hm
  subst e
  cases r3
  refine wpAny_truthy_bool ?_
  cases k with
  | false =>
    obtain ⟨k', e', q'⟩ := q3
    cases e'
    exact ite_ff ⟨H3, I3, q'⟩
  | true =>
    refine ite_tt (test_last (thn (hc pins s3 σ H3 _ I3 q3) fun w' s4 ⟨z', H4, I4, r4, q4⟩ => thn (ho' pins s4 σ H4 y z' u w' _ I4 r2 r4 q4) fun d' s5 ⟨z2, H5, I5, r5, k2, e2, q5⟩ => ?_))
    subst e2
    cases r5
    exact wpAny_truthy_bool ⟨H5, I5, q5⟩

/-! ### truth -/
/-- a value's truth by the abstract heap -/
def TruV (K : PySem.W.Frag) (x : V) (H : Hp) (k : Bool) : Prop :=
  match x with
  | .non => k = false
  | .bl b => k = b
  | .int i => k = (i != 0)
  | .str y => y.length ≤ sizeLine ∧ k = ((y.length : Int) != 0)
  | .byt y => y.size ≤ sizeLine ∧ k = ((y.size : Int) != 0)
  | .ref p => (∃ xs, SqL K H p xs ∧ k = !xs.isEmpty) ∨ (∃ xs, SqT K H p xs ∧ k = !xs.isEmpty) ∨ ∃ kvs, H p = some (.dK kvs) ∧ k = !kvs.isEmpty
  | _ => False
theorem isEmpty_kv {κ : Type} {kvs : List (κ × V)} {vs : List (κ × Value)} (r : KV kvs vs) : (!vs.isEmpty) = !kvs.isEmpty := by
  cases r <;> rfl
theorem isEmpty_of {xs : List V} {its : List Value} (r : Vals xs its) : (!its.toArray.isEmpty) = !xs.isEmpty := by
  cases r <;> simp
theorem line63 : (sizeLine : Nat) < 2 ^ 63 := by rw [sizeLine_eq]; decide
theorem tru_ok : TruR X (fun x H Q => ∃ k, TruV X.K x H k ∧ Q k H) := by
  intro pins s σ H x v Q I rx h
  obtain ⟨k, e, q⟩ := h
  have hl := line63
  have hs : sizeLine = 16777216 := sizeLine_eq
  cases x with
  | non =>
    cases rx
    have e' : k = false := e
    subst e'
    exact truthy_none ⟨H, I, q⟩
  | bl b =>
    cases rx
    have e' : k = b := e
    subst e'
    exact wpAny_truthy_bool ⟨H, I, q⟩
  | int i =>
    obtain ⟨t, rfl⟩ := rx
    have e' : k = (i != 0) := e
    subst e'
    exact PySem.P.truthy_int ⟨H, I, q⟩
  | str y =>
    obtain ⟨t, rfl⟩ := rx
    obtain ⟨hy, e'⟩ : y.length ≤ sizeLine ∧ k = ((y.length : Int) != 0) := e
    subst e'
    exact PySem.P.truthy_str (by omega) ⟨H, I.tok _, q⟩
  | byt y =>
    obtain ⟨t, rfl⟩ := rx
    obtain ⟨hy, e'⟩ : y.size ≤ sizeLine ∧ k = ((y.size : Int) != 0) := e
    subst e'
    exact PySem.W.truthy_bytes (by omega) ⟨H, I.tok _, q⟩
  | ref p =>
    cases rx
    have e' : (∃ xs, SqL X.K H p xs ∧ k = !xs.isEmpty) ∨ (∃ xs, SqT X.K H p xs ∧ k = !xs.isEmpty) ∨ ∃ kvs, H p = some (.dK kvs) ∧ k = !kvs.isEmpty := e
    rcases e' with ⟨xs, hx, e'⟩ | ⟨xs, hx, e'⟩ | ⟨kvs, hx, e'⟩
    · subst e'
      obtain ⟨its, r, pl, hz⟩ := I.list hx
      have hlen := r.length
      exact wpAny_truthy_list pl.isList (by simp only [List.size_toArray]; omega) ⟨H, I.tok _, by rw [isEmpty_of r]; exact q⟩
    · subst e'
      obtain ⟨its, r, pl, hz⟩ := I.tuple hx
      have hlen := r.length
      exact truthy_tuple pl (by simp only [List.size_toArray]; omega) ⟨H, I.tok _, by rw [isEmpty_of r]; exact q⟩
    · subst e'
      obtain ⟨hz, hS, vs, r, m⟩ : kvs.length ≤ sizeLine ∧ (p == sysModules) = false ∧ ∃ vs, KV kvs vs ∧ s.heap.DictOf (mixKind X.prog X.w) p vs := I.hok p _ hx
      have hlen : kvs.length = vs.length := Paired.length r
      exact wpAny_truthy_dict hS m (by omega) ⟨H, I.tok _, by rw [isEmpty_kv r]; exact q⟩
  | _ => exact (show False from e).elim
/-- any expression whose test is its value's truth (a name, a call, a subscript, a field ..: he by fun _ => rfl) -/
theorem pt_truth (ha : PE X a ta) (he : ∀ whole, isTrue a X.env whole = (do let v ← whole; standAt a.pos; holding [v] (truthy v))) :
    PT X a (fun σ H Q => ta σ H fun x H' => ∃ k, TruV X.K x H' k ∧ Q k H') := by
  intro pins s σ H Q I h
  exact isTrue_plain (thn (ha pins s σ H _ I h) fun v s1 ⟨x, H1, I1, r1, q1⟩ => tru_ok pins s1 σ H1 x v Q I1 r1 q1) (he _)

/-! ### strs and bytes -/


/-! ### scalar builtins, by CallR -/
theorem vals1 {x : V} {us : List Value} (r : Vals [x] us) : ∃ u, us = [u] ∧ RelV x u := by
  cases r with
  | cons r1 r2 => cases r2; exact ⟨_, rfl, r1⟩
theorem vals2 {x y : V} {us : List Value} (r : Vals [x, y] us) : ∃ u w', us = [u, w'] ∧ RelV x u ∧ RelV y w' := by
  cases r with
  | cons r1 r2 =>
    cases r2 with
    | cons r3 r4 => cases r4; exact ⟨_, _, rfl, r1, r3⟩
theorem call_abs : CallR X (.builtin "abs") (fun xs H Q => ∃ i, xs = [.int i] ∧ Q (.int (if i < 0 then -i else i)) H) := by
  intro pins s σ H xs us Q I r h
  obtain ⟨i, rfl, q⟩ := h
  obtain ⟨u, rfl, t, rfl⟩ := vals1 r
  exact call_abs_int fun u tk => ⟨.int (if i < 0 then -i else i), H, I.tok _, ⟨_, rfl⟩, q⟩
theorem call_max2 (hc : X.calm = true) : CallR X (.builtin "max") (fun xs H Q => ∃ i j, xs = [.int i, .int j] ∧ Q (.int (if j > i then j else i)) H) := by
  intro pins s σ H xs us Q I r h
  obtain ⟨i, j, rfl, q⟩ := h
  obtain ⟨u, w', rfl, ⟨t, rfl⟩, ⟨t', rfl⟩⟩ := vals2 r
  refine max_two_ints (I.ok.hd hc) fun h' tk k => ⟨_, H, I.kept k, ?_, q⟩
  by_cases hj : j > i
  · rw [if_pos hj, if_pos hj]; exact ⟨_, rfl⟩
  · rw [if_neg hj, if_neg hj]; exact ⟨_, rfl⟩
theorem call_min2 (hc : X.calm = true) : CallR X (.builtin "min") (fun xs H Q => ∃ i j, xs = [.int i, .int j] ∧ Q (.int (if j < i then j else i)) H) := by
  intro pins s σ H xs us Q I r h
  obtain ⟨i, j, rfl, q⟩ := h
  obtain ⟨u, w', rfl, ⟨t, rfl⟩, ⟨t', rfl⟩⟩ := vals2 r
  refine min_two_ints (I.ok.hd hc) fun h' tk k => ⟨_, H, I.kept k, ?_, q⟩
  by_cases hj : j < i
  · rw [if_pos hj, if_pos hj]; exact ⟨_, rfl⟩
  · rw [if_neg hj, if_neg hj]; exact ⟨_, rfl⟩
theorem call_int1 : CallR X (.type "int") (fun xs H Q => (∃ i, xs = [.int i] ∧ Q (.int i) H) ∨ ∃ k, xs = [.bl k] ∧ Q (.int (if k then 1 else 0)) H) := by
  intro pins s σ H xs us Q I r h
  rcases h with ⟨i, rfl, q⟩ | ⟨k, rfl, q⟩
  · obtain ⟨u, rfl, t, rfl⟩ := vals1 r
    exact call_int_int ⟨.int i, H, I, ⟨_, rfl⟩, q⟩
  · obtain ⟨u, rfl, r1⟩ := vals1 r
    cases r1
    exact call_int_bool ⟨.int (if k then 1 else 0), H, I.tok _, ⟨_, rfl⟩, q⟩
theorem call_str_int : CallR X (.type "str") (fun xs H Q => ∃ i, xs = [.int i] ∧ i.natAbs.log2 < 1920 ∧ Q (.str (toString i)) H) := by
  intro pins s σ H xs us Q I r h
  obtain ⟨i, rfl, hz, q⟩ := h
  obtain ⟨u, rfl, t, rfl⟩ := vals1 r
  exact PySem.P.str_of_int hz ⟨.str _, H, I.tok _, ⟨_, rfl⟩, q⟩
end
end L2

namespace L2
open PySem PySem.Spec PyProof.Rows

/-! ### an instance, its attributes a map -/
structure ObjM (h : Heap) (x dx C : Addr) (mA : Str → Option Value) : Prop where
  obj : h.get? x = some (PySem.W.instObj C dx)
  ns : h.Ns1 dx mA
  ne : dx ≠ x

theorem lookIn_ns {h : Heap} {dx : Addr} {mA : Str → Option Value} (n : h.Ns1 dx mA) : ∃ od, h.get? dx = some od ∧ ∀ name, PySem.W.lookIn name od = some (mA name) := by
  obtain ⟨o, es, ep, ho, hd, hk, _, hm⟩ := n
  refine ⟨o, ho, fun name => ?_⟩
  have e := hm name
  unfold nsFind findBy at e
  rw [← Array.find?_toList] at e
  unfold PySem.W.lookIn
  rw [hd]
  dsimp only
  split
  · rename_i y q
    rw [q] at e
    exact congrArg some e
  · rename_i q
    rw [q] at e
    have a : es.toList.any (·.refKey) = false := by
      rw [List.any_eq_false]
      intro y hy
      obtain ⟨z, t, hkey⟩ := hk y (Array.mem_toList_iff.mp hy)
      simp [DictEntry.refKey, hkey]
    have a' : ¬ es.toList.any (·.refKey) = true := by rw [a]; exact Bool.false_ne_true
    rw [if_neg a']
    exact congrArg some e

theorem ObjM.look {h : Heap} {x dx C : Addr} {mA : Str → Option Value} (I : ObjM h x dx C mA) : ∃ od, PySem.W.InstAt h x (PySem.W.instObj C dx) C (some od) ∧ ∀ name, PySem.W.lookIn name od = some (mA name) :=
  let ⟨od, ho, hl⟩ := lookIn_ns I.ns
  ⟨od, ⟨I.obj, rfl, rfl, ho⟩, hl⟩

section
variable {prog : Program} {w : World} {A : Around} {E : Value → Shared → Prop} {s : Shared} {K : PySem.W.Frag} {x dx C f : Addr} {mA : Str → Option Value} {name : Str} {v : Value}

theorem get_map {expr : Bool} {Q : Value → Shared → Prop} (X : K.In s.heap) (I : ObjM s.heap x dx C mA) (hg : PySem.W.plainGet K C name = true) (hh : PySem.W.hasDictIn K C = true)
    (ha : PySem.W.findIn K (.ref C) name = some none) (hv : mA name = some v) (hv' : PySem.W.handedIn v = true) (h : Q v { s with toks := s.toks + 1 }) :
    wpAny (model prog w) A (getAttr (.ref x) name expr) Q E s := by
  obtain ⟨od, J, hl⟩ := I.look
  exact PySem.W.get_value X J (PySem.W.plainGet_of hg).1 (PySem.W.findObj_own hh ha rfl (by rw [hl, hv])) hv' h


theorem get_meth {pl : Sem Bool} {Q : Value × List Value → Shared → Prop} (X : K.In s.heap) (I : ObjM s.heap x dx C mA) (hg : PySem.W.plainGet K C name = true)
    (hf : PySem.W.findIn K (.ref C) name = some (some (.ref f))) (ht : PySem.W.isFn K (.ref f) = true) (hv : mA name = none) (h : Q (.ref f, [.ref x]) s) :
    wpAny (model prog w) A (getMethod (.ref x) name pl) Q E s := by
  obtain ⟨od, J, hl⟩ := I.look
  exact PySem.W.method_fn X J (PySem.W.plainGet_of hg).1 (PySem.W.plainGet_of hg).2 hf (beq_iff_eq.mp ht) (by show (PySem.W.lookIn name od).map (·.isSome) = some false; rw [hl, hv]; rfl) h

theorem set_map {ns : List Str} {Q : Unit → Shared → Prop} (X : K.In s.heap) (I : ObjM s.heap x dx C mA)
    (hs : PySem.W.findIn K (.ref C) "__setattr__" = some (some (.builtin "object.__setattr__"))) (hp : PySem.W.plainOver K C = true) (ht : PySem.W.takerIn K C name = some none) (hh : PySem.W.hasDictIn K C = true)
    (hw : PySem.Within mA ns) (hsz : ns.length ≤ sizeLine)
    (h : ∀ h', ObjM h' x dx C (fun y => if y = name then some v else mA y) → Heap.SameBut dx s.heap h' → Q () { s with heap := h', toks := s.toks + 2 }) :
    wpAny (model prog w) A (setAttr (.ref x) name v) Q E s := by
  obtain ⟨od, J, hl⟩ := I.look
  refine PySem.W.set_plain X J hs (PySem.W.osa_open (s := { s with toks := s.toks + 1 }) (r := none) X J hp ht fun b => ?_)
  obtain ⟨cd, hc, hd'⟩ := PySem.W.any_some hh
  have hx : s.heap.get? x = some ⟨.ref C, some dx, .plain, #[]⟩ := I.obj
  refine wpAny_bind (wpAny_pure (wpAny_bind (wpAny_bind (wpAny_loadPart hx (wpAny_bind (PySem.W.Looks.here (s := { s with toks := s.toks + 1 }) (PySem.W.looks_clsIn X hc) ?_))))))
  rw [hd']
  refine wpAny_pure (a := some dx) (wpAny_bind (wpAny_pure (wpAny_bind ?_)))
  refine wpAny_nsSet1 (s := { s with toks := s.toks + 1 }) I.ns fun h' hn2 hs2 => ?_
  obtain ⟨oD, esD, epD, hoD, hdD, hcD⟩ := hn2.count (PySem.Within.cons name v hw)
  refine wpAny_bind (wpAny_lookBehind hoD (by rw [hdD]; exact pastItsLine_dict (Nat.le_trans hcD (by rw [List.length_cons]; omega))) ?_)
  exact wpAny_pure (h _ ⟨(hs2.2 _ (Ne.symm I.ne)).trans I.obj, hn2, I.ne⟩ hs2)

/-- C(..): the dict at the heap's end, the instance behind it; then its __init__ -/
theorem make_map {R : Result → Shared → Prop} {vs : List Value} {kw : List (Str × Value)} (X : K.In s.heap) (hm : PySem.W.makesIn K C = true)
    (hi : PySem.W.findIn K (.ref C) "__init__" = some (some (.ref f))) (hf : PySem.W.typeIn K (.ref f) = some (.type "function"))
    (h : codeAny (model prog w) (A.under (.builtin "type.__call__" ⟨.ref C :: vs, kw⟩)) (.call (.ref f) ⟨.ref (s.heap.objs.size + 1) :: vs, kw⟩) (PySem.W.InitBack (s.heap.objs.size + 1) R)
      { s with heap := (s.heap.push PySem.W.emptyDict).push (PySem.W.instObj C s.heap.objs.size) }) :
    codeAny (model prog w) A (.call (.ref C) ⟨vs, kw⟩) R s := by
  obtain ⟨hh, g, d, t, os⟩ := s
  exact PySem.W.make_core (PySem.W.makes_of X hm) (PySem.W.looks_findIn X hi) (fun self => PySem.W.bind_fn X self hf) (.inl rfl) h
end

/-! ### the attributes as a list of pairs -/
def putF (f : Str) (v : V) : List (Str × V) → List (Str × V)
  | [] => [(f, v)]
  | (g, x) :: r => if g = f then (g, v) :: r else (g, x) :: putF f v r
theorem lookup_putF (f g : Str) (v : V) : ∀ fs : List (Str × V), (putF f v fs).lookup g = if g = f then some v else fs.lookup g
  | [] => by
    show List.lookup g [(f, v)] = _
    by_cases h : g = f
    · have hb : (g == f) = true := beq_iff_eq.mpr h
      simp only [List.lookup, hb, if_pos h]
    · have hb : (g == f) = false := beq_eq_false_iff_ne.mpr h
      simp only [List.lookup, hb, if_neg h]
  | (k, x) :: r => by
    have ih := lookup_putF f g v r
    rw [show putF f v ((k, x) :: r) = (if k = f then (k, v) :: r else (k, x) :: putF f v r) from rfl]
    by_cases hk : k = f
    · rw [if_pos hk]
      by_cases h : g = k
      · have hb : (g == k) = true := beq_iff_eq.mpr h
        simp only [List.lookup, hb, if_pos (h.trans hk)]
      · have hb : (g == k) = false := beq_eq_false_iff_ne.mpr h
        simp only [List.lookup, hb, if_neg (fun e : g = f => h (e.trans hk.symm))]
    · rw [if_neg hk]
      by_cases h : g = k
      · have hb : (g == k) = true := beq_iff_eq.mpr h
        simp only [List.lookup, hb, if_neg (fun e : g = f => hk (h.symm.trans e))]
      · have hb : (g == k) = false := beq_eq_false_iff_ne.mpr h
        simp only [List.lookup, hb]
        exact ih
theorem keys_putF (f : Str) (v : V) : ∀ fs : List (Str × V), f ∈ (putF f v fs).map (·.1) ∧ ∀ g, g ∈ fs.map (·.1) → g ∈ (putF f v fs).map (·.1)
  | [] => ⟨by simp [putF], fun g h => by simp at h⟩
  | (k, x) :: r => by
    obtain ⟨i1, i2⟩ := keys_putF f v r
    rw [show putF f v ((k, x) :: r) = (if k = f then (k, v) :: r else (k, x) :: putF f v r) from rfl]
    by_cases hk : k = f
    · rw [if_pos hk]
      subst hk
      exact ⟨by simp, fun g h => by simpa using h⟩
    · rw [if_neg hk]
      refine ⟨?_, fun g h => ?_⟩
      · rw [List.map_cons]
        exact List.mem_cons_of_mem _ i1
      · rw [List.map_cons] at h ⊢
        rcases List.mem_cons.mp h with e | e
        · exact List.mem_cons.mpr (.inl e)
        · exact List.mem_cons_of_mem _ (i2 g e)
theorem length_putF (f : Str) (v : V) : ∀ fs : List (Str × V), (putF f v fs).length ≤ fs.length + 1
  | [] => by simp [putF]
  | (k, x) :: r => by
    have ih := length_putF f v r
    rw [show putF f v ((k, x) :: r) = (if k = f then (k, v) :: r else (k, x) :: putF f v r) from rfl]
    by_cases hk : k = f
    · rw [if_pos hk, List.length_cons, List.length_cons]; omega
    · rw [if_neg hk, List.length_cons, List.length_cons]; omega

theorem RelO.some_of {v : V} {o : Option Value} (r : RelO (some v) o) : ∃ u, o = some u ∧ RelV v u := by
  cases o with
  | none => exact (show False from r).elim
  | some u => exact ⟨u, rfl, r⟩
theorem RelO.none_of {o : Option Value} (r : RelO none o) : o = none := by
  cases o with
  | none => rfl
  | some u => exact (show False from r).elim
theorem handed_of {v : V} {u : Value} (r : RelV v u) : PySem.W.handedIn u = true := by
  cases v with
  | non => cases (show u = Value.none from r); rfl
  | bl b => cases (show u = Value.bool b from r); rfl
  | int i => obtain ⟨t, e⟩ := (show ∃ t, u = Value.int i t from r); cases e; rfl
  | str x => obtain ⟨t, e⟩ := (show ∃ t, u = Value.str x t from r); cases e; rfl
  | byt b => obtain ⟨t, e⟩ := (show ∃ t, u = Value.bytes b t from r); cases e; rfl
  | flt b => obtain ⟨t, e⟩ := (show ∃ t, u = Value.float b t from r); cases e; rfl
  | ref a => cases (show u = Value.ref a from r); rfl
  | ty n => cases (show u = Value.type n from r); rfl

section
variable {P : Program} {w : World} {H H' : Hp} {h h' : Heap} {a C dx : Addr} {fs fs' : List (Str × V)}
theorem ins_get (hok : HOk P w H h) (e : H a = some (.ins C dx fs)) : ∃ mA, ObjM h a dx C mA ∧ (∀ f, RelO (fs.lookup f) (mA f)) ∧ PySem.Within mA (fs.map (·.1)) ∧ fs.length ≤ 1000 ∧ H dx = some (.own a) := by
  obtain ⟨d, z, ne, ob, mA, n, r, q⟩ := (show ObjOk P w H h a (.ins C dx fs) from hok a _ e)
  exact ⟨mA, ⟨ob, n, ne⟩, r, q, z, d⟩
end

/-! ### what of the text a class must have -/
structure Cls (K : PySem.W.Frag) (C : Addr) : Prop where
  pg : PySem.W.plainGet K C Str.empty = true
  hd : PySem.W.hasDictIn K C = true
  po : PySem.W.plainOver K C = true
  sa : PySem.W.findIn K (.ref C) "__setattr__" = some (some (.builtin "object.__setattr__"))
theorem Cls.get {K : PySem.W.Frag} {C : Addr} (c : Cls K C) (f : Str) : PySem.W.plainGet K C f = true := c.pg
/-- no class of it has the name -/
def NoAttr (K : PySem.W.Frag) (C : Addr) (f : Str) : Prop := PySem.W.findIn K (.ref C) f = some none
theorem NoAttr.taker {K : PySem.W.Frag} {C : Addr} {f : Str} (n : NoAttr K C f) : PySem.W.takerIn K C f = some none := by
  unfold PySem.W.takerIn
  rw [show PySem.W.findIn K (.ref C) f = some none from n]
  rfl
/-- a method: a plain def of the class or of one above it -/
structure Meth (K : PySem.W.Frag) (C : Addr) (m : Str) (f : Addr) : Prop where
  at_ : PySem.W.findIn K (.ref C) m = some (some (.ref f))
  fn : PySem.W.isFn K (.ref f) = true
  kp : PySem.W.keepIn K (.ref f) = true

section
variable {X : Cx} {pins : List (Addr × Obj)} {σ : St} {H : Hp} {s : Shared} {a C dx : Addr} {fs : List (Str × V)} {f : Str} {v : V} {A : Around} {E : Value → Shared → Prop}

theorem getattr_ok {b : Bool} {Q : Value → Shared → Prop} (I : Inv X pins σ H s) (e : H a = some (.ins C dx fs)) (c : Cls X.K C) (n : NoAttr X.K C f) (l : fs.lookup f = some v)
    (h : ∀ u s', Inv X pins σ H s' → RelV v u → Q u s') : wpAny (model X.prog X.w) A (getAttr (.ref a) f b) Q E s := by
  obtain ⟨mA, O, r, _, _, _⟩ := ins_get I.hok e
  obtain ⟨u, hu, ru⟩ := RelO.some_of (v := v) (o := mA f) (by rw [← l]; exact r f)
  exact get_map I.kIn O (c.get f) c.hd n hu (handed_of ru) (h u _ (I.tok _) ru)


theorem getmeth_ok {m : Str} {g : Addr} {pl : Sem Bool} {Q : Value × List Value → Shared → Prop} (I : Inv X pins σ H s) (e : H a = some (.ins C dx fs)) (c : Cls X.K C) (k : Meth X.K C m g) (l : fs.lookup m = none)
    (h : Q (.ref g, [.ref a]) s) : wpAny (model X.prog X.w) A (getMethod (.ref a) m pl) Q E s := by
  obtain ⟨mA, O, r, _, _, _⟩ := ins_get I.hok e
  have hn : mA m = none := RelO.none_of (by rw [← l]; exact r m)
  exact get_meth I.kIn O (c.get m) k.at_ k.fn hn h

theorem setattr_ok {y : V} {u : Value} {Q : Unit → Shared → Prop} (I : Inv X pins σ H s) (e : H a = some (.ins C dx fs)) (c : Cls X.K C) (n : NoAttr X.K C f) (hl : fs.length < 1000) (ry : RelV y u)
    (h : ∀ s', Inv X pins σ (upd H a (.ins C dx (putF f y fs))) s' → Q () s') : wpAny (model X.prog X.w) A (setAttr (.ref a) f u) Q E s := by
  obtain ⟨mA, O, r, wi, _, ho⟩ := ins_get I.hok e
  have hz : (fs.map (·.1)).length ≤ sizeLine := by rw [List.length_map, sizeLine_eq]; omega
  refine set_map I.kIn O c.sa c.po n.taker c.hd wi hz fun h' O' sb => h _ ?_
  have hd : ∃ o, h'.get? dx = some o := let ⟨o, _, _, e', _⟩ := O'.ns; ⟨o, e'⟩
  refine I.write (x := a) (e := dx) (by rw [e]; exact True.intro) (.inr ho) (fun b q hb z => (sb.2 b hb).trans z) hd ?_
  refine ⟨by rw [upd_ne O.ne]; exact ho, ?_, O.ne, O'.obj, _, O'.ns, fun g => ?_, fun g hg => ?_⟩
  · have := length_putF f y fs; omega
  · show RelO ((putF f y fs).lookup g) (if g = f then some u else mA g)
    rw [lookup_putF]
    by_cases q : g = f
    · rw [if_pos q, if_pos q]; exact ry
    · rw [if_neg q, if_neg q]; exact r g
  · by_cases q : g = f
    · rw [q]; exact (keys_putF f y fs).1
    · refine (keys_putF f y fs).2 g (wi g fun z => hg ?_)
      show (if g = f then some u else mA g) = none
      rw [if_neg q]; exact z

/-- a new instance, tracked, without attributes -/
theorem Inv.made (I : Inv X pins σ H s) : Inv X pins σ (upd (upd H s.heap.objs.size (.own (s.heap.objs.size + 1))) (s.heap.objs.size + 1) (.ins C s.heap.objs.size []))
    { s with heap := (s.heap.push PySem.W.emptyDict).push (PySem.W.instObj C s.heap.objs.size) } := by
  have e1 : (s.heap.push PySem.W.emptyDict).get? s.heap.objs.size = some PySem.W.emptyDict := Heap.get?_push_size s.heap rfl
  have e2 : ((s.heap.push PySem.W.emptyDict).push (PySem.W.instObj C s.heap.objs.size)).get? (s.heap.objs.size + 1) = some (PySem.W.instObj C s.heap.objs.size) := by
    have := Heap.get?_push_size (s.heap.push PySem.W.emptyDict) (o := PySem.W.instObj C s.heap.objs.size) rfl
    rwa [Heap.size_push] at this
  have e3 : (s.heap.push PySem.W.emptyDict).Ns s.heap.objs.size (fun _ => none) := ⟨PySem.W.emptyDict, #[], _, e1, rfl, (fun e he => absurd he (by simp)), fun _ => rfl⟩
  have I1 := I.laid (a := s.heap.objs.size) (o := .own (s.heap.objs.size + 1)) (h' := s.heap.push PySem.W.emptyDict) (t' := s.toks) (fun b u q => Heap.get?_push_of_some _ q) (Nat.le_refl _) ⟨_, e1⟩
  refine I1.laid (a := s.heap.objs.size + 1) (o := .ins C s.heap.objs.size []) (t' := s.toks) (fun b u q => Heap.get?_push_of_some _ q) (Nat.le_of_eq (Heap.size_push _ _)) ?_
  have ne : s.heap.objs.size ≠ s.heap.objs.size + 1 := Nat.ne_of_lt (Nat.lt_succ_self _)
  refine ⟨by rw [upd_ne ne, upd_same], Nat.zero_le _, ne, e2, fun _ => none, (Heap.Ns1.of_empty e3).at fun o q => Heap.get?_push_of_some _ q, fun _ => True.intro, fun y hy => absurd rfl hy⟩

/-- e.f where nothing but the object is asked: through attributeBase (super) and the last hold -/
theorem attr_of {prog : Program} {w : World} {env : Env} {e : Expr} {f : Str} {pos : Pos} {s : Shared} {Q : Value → Shared → Prop} (hb : attributeBase e f env (eval e env) = eval e env)
    (h : wpAny (model prog w) A (eval e env) (fun o s₁ => wpAny (model prog w) A (getAttr o f true) Q E s₁) E s) : wpAny (model prog w) A (eval (.Attribute e f pos) env) Q E s :=
  Attribute_any_ h (by rw [arm_eval_Attribute, hb])
end

/-! ### readings and rules -/
/-- e.f, an attribute of the instance -/
def tFld (K : PySem.W.Frag) (ta : TE) (f : Str) : TE := fun σ H Q => ta σ H fun x H1 => ∃ a C dx fs v, x = .ref a ∧ H1 a = some (.ins C dx fs) ∧ Cls K C ∧ NoAttr K C f ∧ fs.lookup f = some v ∧ Q v H1
/-- e.f = value -/
def sFld (K : PySem.W.Frag) (ta tv : TE) (f : Str) : TS := fun D σ H => tv σ H fun y H1 => ta σ H1 fun x H2 => ∃ a C dx fs, x = .ref a ∧ H2 a = some (.ins C dx fs) ∧ Cls K C ∧ NoAttr K C f ∧ fs.length < 1000 ∧
  D.nx σ (upd H2 a (.ins C dx (putF f y fs)))
/-- an augmented operator on two values -/
def InOp (X : Cx) (op : Operator) (rd : V → V → Hp → VK → Prop) : Prop :=
  ∀ (pins : List (Addr × Obj)) (s : Shared) (σ : St) (H : Hp) (x y : V) (u v : Value) (Q : VK), Inv X pins σ H s → RelV x u → RelV y v → rd x y H Q → wpAny (model X.prog X.w) X.A (inplaceOp op u v) (EP X pins σ Q) X.xe s
/-- e.f op= value -/
def sFldAug (K : PySem.W.Frag) (ta tv : TE) (rd : V → V → Hp → VK → Prop) (f : Str) : TS := fun D σ H => ta σ H fun x H1 => ∃ a C dx fs v, x = .ref a ∧ H1 a = some (.ins C dx fs) ∧ Cls K C ∧ NoAttr K C f ∧ fs.lookup f = some v ∧
  tv σ H1 fun y H2 => rd v y H2 fun z H3 => ∃ dx' fs', H3 a = some (.ins C dx' fs') ∧ fs'.length < 1000 ∧ D.nx σ (upd H3 a (.ins C dx' (putF f z fs')))

section
variable {X : Cx} {o e value : Expr} {f : Str} {pos pos' tpos : Pos} {ta tv : TE}
theorem pe_fld (he : PE X e ta) (hb : attributeBase e f X.env (eval e X.env) = eval e X.env) : PE X (.Attribute e f pos) (tFld X.K ta f) := by
  intro pins s σ H Q I h
  refine attr_of hb (thn (he pins s σ H _ I h) fun u s1 ⟨x, H1, I1, rx, a, C, dx, fs, v, ex, ea, c, n, l, q⟩ => ?_)
  subst ex
  obtain rfl : u = Value.ref a := rx
  exact getattr_ok I1 ea c n l fun u' s2 I2 ru => ⟨v, H1, I2, ru, q⟩
theorem ps_fld (ha : PE X o ta) (hv : PE X value tv) (hs : swapsWith value (some (.Attribute o f pos')) pos.line X.env = pure false) : PS X (.Assign [.Attribute o f pos'] value pos) (sFld X.K ta tv f) := by
  intro pins s σ H D I h
  refine plainObj_wpAny_Assign_Attribute (thn (hv pins s σ H _ I h) fun u s1 ⟨y, H1, I1, ry, q⟩ => thn (ha pins s1 σ H1 _ I1 q) fun ov s2 ⟨x, H2, I2, rx, a, C, dx, fs, ex, ea, c, n, l, q2⟩ => ?_) hs
  subst ex
  obtain rfl : ov = Value.ref a := rx
  exact setattr_ok I2 ea c n l ry fun s3 I3 => ⟨σ, _, I3, q2⟩
theorem ps_fldaug {op : Operator} {rd : V → V → Hp → VK → Prop} (ha : PE X o ta) (hv : PE X value tv) (hop : InOp X op rd) : PS X (.AugAssign (.Attribute o f tpos) op value pos) (sFldAug X.K ta tv rd f) := by
  intro pins s σ H D I h
  refine wpAny_AugAssign_AttributeAny (thn (ha pins s σ H _ I h) fun ov s1 ⟨x, H1, I1, rx, a, C, dx, fs, v, ex, ea, c, n, l, q⟩ => ?_)
  subst ex
  obtain rfl : ov = Value.ref a := rx
  refine getattr_ok I1 ea c n l fun u s2 I2 ru => thn (hv pins s2 σ H1 _ I2 q) fun w3 s3 ⟨y, H2, I3, ry, q3⟩ => thn (hop pins s3 σ H2 v y u w3 _ I3 ru ry q3) fun w4 s4 ⟨z, H3, I4, rz, dx', fs', ea', l', q4⟩ => ?_
  exact setattr_ok I4 ea' c n l' rz fun s5 I5 => ⟨σ, _, I5, q4⟩

/-- what is between an instance and its method: the tree of a method call -/
theorem methcall_of {pl : Sem Bool} {m : Str} {apos : Pos} {args : List Expr} {pins : List (Addr × Obj)} {s : Shared} {σ : St} {H : Hp} {Q : Value → Shared → Prop} {te : TE} (he : PE X e te) (I : Inv X pins σ H s)
    (h : te σ H fun x H1 => ∃ a C dx fs g, x = .ref a ∧ H1 a = some (.ins C dx fs) ∧ Cls X.K C ∧ Meth X.K C m g ∧ fs.lookup m = none ∧
      ∀ s1, Inv X pins σ H1 s1 → wpAny (model X.prog X.w) X.A (callWith pos (.ref g) [.ref a] (backTo pos (starEach args X.env)) (backToKw pos (keywordEach [] X.env))) Q X.xe s1)
    (ht : eval (.Call (.Attribute e m apos) args [] pos) X.env = (do
      let ov ← eval e X.env
      standAt apos.atName
      let (f, first) ← holding [ov] (getMethod ov m pl)
      callWith pos f first (backTo pos (starEach args X.env)) (backToKw pos (keywordEach [] X.env)))) :
    wpAny (model X.prog X.w) X.A (eval (.Call (.Attribute e m apos) args [] pos) X.env) Q X.xe s := by
  refine PySem.W.methodCall_KW (pl := pl) (thn (he pins s σ H _ I h) fun u s1 ⟨x, H1, I1, rx, a, C, dx, fs, g, ex, ea, c, k, l, q⟩ => ?_) ht
  subst ex
  obtain rfl : u = Value.ref a := rx
  exact getmeth_ok I1 ea c k l (q s1 I1)
end

/-! ### isinstance -/
section
variable {X : Cx} {pins : List (Addr × Obj)} {σ : St} {H : Hp} {s : Shared} {A : Around} {E : Value → Shared → Prop} {Q : Value → Shared → Prop} {c : Value} {b : Bool}
/-- the type of a value, as the fragment's deciders take it; for an instance its class -/
inductive TyOf (K : PySem.W.Frag) (H : Hp) : V → Value → Prop where
  | non : TyOf K H .non (.type "NoneType")
  | bl (x : Bool) : TyOf K H (.bl x) (.type "bool")
  | int (i : Int) : TyOf K H (.int i) (.type "int")
  | str (x : Str) : TyOf K H (.str x) (.type "str")
  | flt (x : UInt64) : TyOf K H (.flt x) (.type "float")
  | lst {a : Addr} {xs : List V} (e : H a = some (.lst xs)) : TyOf K H (.ref a) (.type "list")
  | frz {a : Addr} {o : Obj} {xs : List V} (e : H a = some (.frz o (.lst xs))) : TyOf K H (.ref a) (.type "list")
  | tup {a : Addr} {xs : List V} (e : H a = some (.tup xs)) : TyOf K H (.ref a) (.type "tuple")
  | dK {a : Addr} {kvs : List (Key × V)} (e : H a = some (.dK kvs)) : TyOf K H (.ref a) (.type "dict")
  | dT {a : Addr} {kvs : List (List Key × V)} (e : H a = some (.dT kvs)) : TyOf K H (.ref a) (.type "dict")
  | ins {a C dx : Addr} {fs : List (Str × V)} (e : H a = some (.ins C dx fs)) (cl : Cls K C) (ha : PySem.W.findIn K (.ref C) "__class__" = some (some (.builtin "object.__class__")))
      (hn : PySem.W.specialIn K (.builtin "object.__class__") "__get__" = some (some (.builtin "getset_descriptor.__get__"))) (htk : PySem.W.takesIn K (.builtin "object.__class__") = some true)
      (hm : PySem.W.mroIn K C (.type "object") = some true) : TyOf K H (.ref a) (.ref C)
/-- isinstance(x, c) for one class c, a built-in or an own one: kitOne's answer -/
theorem isinst_ok {x : V} {u t : Value} (I : Inv X pins σ H s) (rx : RelV x u) (ty : TyOf X.K H x t) (e : PySem.W.kitOne X.K t c = some b) (h : ∀ tk, Q (.bool b) { s with toks := tk }) :
    wpAny (model X.prog X.w) A (call (.builtin "isinstance") [u, c]) Q E s := by
  cases ty with
  | non => cases (show u = Value.none from rx); exact PySem.W.kia_one PySem.W.kitx_none I.kIn True.intro e (fun z => nomatch z) h
  | bl y => cases (show u = Value.bool y from rx); exact PySem.W.kia_one PySem.W.kitx_bool I.kIn True.intro e (fun z => nomatch z) h
  | int i => obtain ⟨t, q⟩ := (show ∃ t, u = Value.int i t from rx); cases q; exact PySem.W.kia_one PySem.W.kitx_int I.kIn True.intro e (fun z => nomatch z) h
  | str y => obtain ⟨t, q⟩ := (show ∃ t, u = Value.str y t from rx); cases q; exact PySem.W.kia_one PySem.W.kitx_str I.kIn True.intro e (fun z => nomatch z) h
  | flt y => obtain ⟨t, q⟩ := (show ∃ t, u = Value.float y t from rx); cases q; exact PySem.W.kia_one PySem.W.kitx_float I.kIn True.intro e (fun z => nomatch z) h
  | @lst a xs ea =>
    cases (show u = Value.ref a from rx)
    obtain ⟨_, _, n, _, h1⟩ := (show ObjOk X.prog X.w H s.heap a (.lst xs) from I.hok a _ ea)
    exact PySem.W.kia_one PySem.W.kitx_list I.kIn ⟨_, h1, rfl⟩ e (fun z => nomatch z) h
  | @frz a ob xs ea =>
    cases (show u = Value.ref a from rx)
    obtain ⟨_, _, _, n, _, h1⟩ := (show ObjOk X.prog X.w H s.heap a (.frz ob (.lst xs)) from I.hok a _ ea)
    exact PySem.W.kia_one PySem.W.kitx_list I.kIn ⟨_, h1, rfl⟩ e (fun z => nomatch z) h
  | @tup a xs ea =>
    cases (show u = Value.ref a from rx)
    obtain ⟨_, _, _, p⟩ := (show ObjOk X.prog X.w H s.heap a (.tup xs) from I.hok a _ ea)
    obtain ⟨o, h1, h2, _⟩ := p
    exact PySem.W.kia_one PySem.W.kitx_tuple I.kIn ⟨o, h1, h2⟩ e (fun z => nomatch z) h
  | @dK a kvs ea =>
    cases (show u = Value.ref a from rx)
    obtain ⟨_, _, vs, _, p⟩ := (show ObjOk X.prog X.w H s.heap a (.dK kvs) from I.hok a _ ea)
    obtain ⟨o, es, ep, h1, h2, _⟩ := p
    exact PySem.W.kia_one PySem.W.kitx_dict I.kIn ⟨o, h1, h2.1⟩ e (fun z => nomatch z) h
  | @dT a kvs ea =>
    cases (show u = Value.ref a from rx)
    obtain ⟨_, _, xs, _, o, es, ep, h1, h2, _⟩ := (show ObjOk X.prog X.w H s.heap a (.dT kvs) from I.hok a _ ea)
    exact PySem.W.kia_one PySem.W.kitx_dict I.kIn ⟨o, h1, h2.1⟩ e (fun z => nomatch z) h
  | @ins a C dx fs ea cl ha hn htk hm =>
    cases (show u = Value.ref a from rx)
    obtain ⟨mA, O, _⟩ := ins_get I.hok ea
    obtain ⟨od, J, _⟩ := O.look
    exact PySem.W.kia_one (PySem.W.kitx_own (cl.get _) cl.hd ha hn htk hm) I.kIn J e (fun z => nomatch z) h
end
end L2

namespace L2
open PySem PySem.Spec PyProof.Rows

/-! ### room -/
structure Room (k : Nat) (A : Around) : Prop where
  hd : A.handled = none
  gd : A.guards = some []
  dp : A.depth + 3 * k + 5 < recursionLimit
  un : A.units + 16 * k + 200 < cLine
theorem Room.mono {j k : Nat} {A : Around} (r : Room k A) (h : j ≤ k) : Room j A := ⟨r.hd, r.gd, by have := r.dp; omega, by have := r.un; omega⟩
theorem Room.deeper {k : Nat} {A : Around} (r : Room (k + 1) A) (env : Env) : Room k (A.deeper env) :=
  ⟨r.hd, (by first | exact r.gd | simpa [Around.deeper] using r.gd), by have := r.dp; show A.depth + 1 + 3 * k + 5 < _; omega, by have := r.un; show A.units + 3 + 16 * k + 200 < _; omega⟩
theorem make_depth {A : Around} {C : Addr} {us : List Value} {kw : List (Str × Value)} : (A.under (.builtin "type.__call__" ⟨.ref C :: us, kw⟩)).depth = A.depth + 1 := by
  first | rfl | simp [Around.under, Code.weight, Code.isCreation, Code.isGuard, Code.isCaller, Code.frames, Code.isFrame, guardIds]
theorem make_units {A : Around} {C : Addr} {us : List Value} {kw : List (Str × Value)} : (A.under (.builtin "type.__call__" ⟨.ref C :: us, kw⟩)).units = A.units + 1 := by
  first | rfl | simp [Around.under, Code.cUnits, Code.frames, Code.isFrame]
theorem Room.make {k : Nat} {A : Around} (r : Room (k + 1) A) (C : Addr) (us : List Value) (kw : List (Str × Value)) : Room k (A.under (.builtin "type.__call__" ⟨.ref C :: us, kw⟩)) :=
  ⟨r.hd, (by first | exact r.gd | simpa [Around.under, Code.guards, Code.isGuard, guardIds, pushGuards] using r.gd), by have := r.dp; rw [make_depth]; omega, by have := r.un; rw [make_units]; omega⟩
theorem Room.depth {k : Nat} {A : Around} (r : Room k A) : A.depth < recursionLimit := by have := r.dp; omega
theorem Room.units {k : Nat} {A : Around} (r : Room k A) : A.units + 64 < cLine := by have := r.un; omega

/-! ### argument lists and displays -/
def tNil : TA := fun _ H Q => Q [] H
def tCons (ta : TE) (tr : TA) : TA := fun σ H Q => ta σ H fun x H1 => tr σ H1 fun xs H2 => Q (x :: xs) H2
section
variable {X : Cx} {e : Expr} {es : List Expr} {te : TE} {t : TA} {pos : Pos}
theorem pa_nil : PA X [] tNil := fun _ _ _ _ H Q I h => Calls.spliced_nil ⟨[], H, I, .nil, h⟩
theorem pa_cons (ha : PE X e te) (hr : PA X es t) (hs : starEach (e :: es) X.env = (false, eval e X.env) :: starEach es X.env := by rfl) : PA X (e :: es) (tCons te t) := by
  intro pos pins s σ H Q I h
  rw [hs]
  show wpAny _ _ (spliced ((false, eval e X.env) :: backTo pos (starEach es X.env))) _ _ s
  refine Calls.spliced_cons (thn (ha pins s σ H _ I h) fun u s1 ⟨x, H1, I1, r1, q1⟩ => ?_)
  exact thn (hr pos pins s1 σ H1 _ I1 q1) fun us s2 ⟨xs, H2, I2, r2, q2⟩ => ⟨x :: xs, H2, I2, .cons r1 r2, q2⟩

/-- a tuple, a list of written items -/
def tTup (t : TA) : TE := fun σ H Q => t σ H fun xs H1 => xs.length ≤ sizeLine ∧ ∀ p, H1 p = none → Q (.ref p) (upd H1 p (.tup xs))
def tLst (t : TA) : TE := fun σ H Q => t σ H fun xs H1 => xs.length ≤ sizeLine ∧ ∀ p, H1 p = none → Q (.ref p) (upd H1 p (.lst xs))
theorem pe_tup {x1} (h : PA X es t) : PE X (.Tuple es x1 pos) (tTup t) := by
  intro pins s σ H Q I hq
  refine wpAny_Tuple_spliced (thn (h pos pins s σ H _ I hq) fun us s1 ⟨xs, H1, I1, r, z, q⟩ => ⟨by rw [← r.length]; exact z, ?_⟩)
  have hf : H1 s1.heap.objs.size = none := I1.hok.fresh (Nat.le_refl _)
  refine ⟨.ref s1.heap.objs.size, upd H1 s1.heap.objs.size (.tup xs), I1.laid (t' := s1.toks) (fun b u e => Heap.get?_push_of_some _ e) (Nat.le_refl _) ?_, rfl, q _ hf⟩
  exact ⟨z, us, r, ⟨_, Heap.get?_push_size _ rfl, rfl, _, rfl⟩⟩
theorem pe_lst (h : PA X es t) : PE X (.List es pos) (tLst t) := by
  intro pins s σ H Q I hq
  refine wpAny_List_spliced (thn (h pos pins s σ H _ I hq) fun us s1 ⟨xs, H1, I1, r, z, q⟩ => ⟨by rw [← r.length]; exact z, ?_⟩)
  have hf : H1 s1.heap.objs.size = none := I1.hok.fresh (Nat.le_refl _)
  refine ⟨.ref s1.heap.objs.size, upd H1 s1.heap.objs.size (.lst xs), I1.laid (t' := s1.toks) (fun b u e => Heap.get?_push_of_some _ e) (Nat.le_refl _) ?_, rfl, q _ hf⟩
  exact ⟨z, us, 0, r, Heap.get?_push_size _ rfl⟩
end

/-! ### what a def promises -/
/-- a def's promise: the bound arguments in the parameters' order, the heap, the wanted end, the wanted exception -/
abbrev Sp := List V → Hp → VK → XK → Prop
/-- how an exception lies behind a call (file 08 gives it): the callers' frames, abstract heap and state ahead of the call, the wish, the exception, the state -/
abbrev CXT := List Env → Hp → Shared → XK → Value → Shared → Prop

/-- the state at a call -/
structure Env0 (P : Program) (w : World) (K : PySem.W.Frag) (mg : Str → Option Value) (base : Heap) (A : Around) (outer : List Env) (s : Shared) (H : Hp) : Prop where
  frames : A.frames = some outer
  mod : Mod K mg base
  bs : ∀ b o, base.get? b = some o → s.heap.get? b = some o ∧ H b = none
  bsz : base.objs.size ≤ s.heap.objs.size
  funs : s.heap.FunFrames base outer
  frf : ∀ b ∈ frs outer, H b = none
  hok : HOk P w H s.heap
  bare : AllBare s.gens
/-- a call's end -/
def CE (outer : List Env) (P : Program) (w : World) (H : Hp) (s : Shared) (Q : VK) (u : Value) (s' : Shared) : Prop :=
  ∃ v H', s'.os = s.os ∧ AllBare s'.gens ∧ Un (frs outer) [] H H' s.heap s'.heap ∧ HOk P w H' s'.heap ∧ RelV v u ∧ Q v H'
def CR (CX : CXT) (outer : List Env) (P : Program) (w : World) (H : Hp) (s : Shared) (Q : VK) (E : XK) (r : Result) (s' : Shared) : Prop :=
  match r with
  | .ok (.ret u) => CE outer P w H s Q u s'
  | .ok _ => False
  | .error e => CX outer H s E e s'
structure FnOk (P : Program) (w : World) (K : PySem.W.Frag) (mg : Str → Option Value) (base : Heap) (CX : CXT) (k : Nat) (f : Addr) (fd : FuncData) (ps : List Str) (sp : Sp) : Prop where
  len : ∀ vs H Q E, sp vs H Q E → vs.length = ps.length
  run : ∀ (A : Around) (outer : List Env) (s : Shared) (H : Hp) (args : Args) (us : List Value) (vs : List V) (Q : VK) (E : XK), Room k A → Env0 P w K mg base A outer s H → BindsTo s fd args (ps.zip us) → Vals vs us → sp vs H Q E →
    codeAny (model P w) A (.call (.ref f) args) (CR CX outer P w H s Q E) s
/-- a weaker promise -/
theorem FnOk.imp {P : Program} {w : World} {K : PySem.W.Frag} {mg : Str → Option Value} {base : Heap} {CX : CXT} {k : Nat} {f : Addr} {fd : FuncData} {ps : List Str} {sp sp' : Sp} (F : FnOk P w K mg base CX k f fd ps sp)
    (h : ∀ vs H Q E, sp' vs H Q E → sp vs H Q E) : FnOk P w K mg base CX k f fd ps sp' :=
  ⟨fun vs H Q E q => F.len vs H Q E (h _ _ _ _ q), fun A outer s H args us vs Q E hr he hb hv hs => F.run A outer s H args us vs Q E hr he hb hv (h _ _ _ _ hs)⟩

theorem Env0.make {P : Program} {w : World} {K : PySem.W.Frag} {mg : Str → Option Value} {base : Heap} {A : Around} {outer : List Env} {s : Shared} {H : Hp} (e : Env0 P w K mg base A outer s H) (C : Addr) (us : List Value) (kw : List (Str × Value)) :
    Env0 P w K mg base (A.under (.builtin "type.__call__" ⟨.ref C :: us, kw⟩)) outer s H := ⟨by first | exact e.frames | (simpa [Around.under, Code.envs, Code.isFrame, pushEnvs] using e.frames), e.mod, e.bs, e.bsz, e.funs, e.frf, e.hok, e.bare⟩

section
variable {X : Cx} {pins : List (Addr × Obj)} {σ : St} {H : Hp} {s s' : Shared}
/-- from a body: what a callee wants -/
theorem Inv.env0 (I : Inv X pins σ H s) : Env0 X.prog X.w X.K X.mg X.base X.A X.stack s H :=
  ⟨I.ok.frames, I.ok.mod, I.bs, Nat.le_trans I.ok.bsz I.sz, I.stack, I.stkFree, I.hok, I.bare⟩
/-- behind a call -/
theorem Inv.after {Q : VK} {u : Value} (I : Inv X pins σ H s) (h : CE X.stack X.prog X.w H s Q u s') : EP X pins σ Q u s' := by
  obtain ⟨v, H', os, bare, un, hok, r, q⟩ := h
  obtain ⟨hh, g, d, t, os'⟩ := s'
  obtain rfl : os' = s.os := os
  exact ⟨v, H', I.call (h' := hh) (g' := g) (d' := d) (t' := t) (ch := []) un hok bare (fun b z => absurd z (by simp)), r, q⟩
end

/-! ### calls -/
/-- f(..): the written arguments, then the defaults dvs; E: what is wanted of an exception -/
def tCall (sp : Sp) (dvs : List V) (E : XK) (t : TA) : TE := fun σ H Q => t σ H fun vs H1 => sp (vs ++ dvs) H1 Q E
/-- o.m(..) of an instance of the class at C -/
def tMeth (C : Addr) (m : Str) (sp : Sp) (dvs : List V) (E : XK) (ta : TE) (t : TA) : TE := fun σ H Q => ta σ H fun x H1 => ∃ a dx fs, x = .ref a ∧ H1 a = some (.ins C dx fs) ∧ fs.lookup m = none ∧
  t σ H1 fun vs H2 => sp (x :: (vs ++ dvs)) H2 Q E
/-- C(..): a new instance and its dict, then __init__ -/
def tMake (C : Addr) (sp : Sp) (dvs : List V) (E : XK) (t : TA) : TE := fun σ H Q => t σ H fun vs H1 => ∀ x dx, H1 x = none → H1 dx = none → dx ≠ x →
  sp (.ref x :: (vs ++ dvs)) (upd (upd H1 dx (.own x)) x (.ins C dx [])) (fun v H2 => v = .non ∧ Q (.ref x) H2) E

/-- how the parameters are bound: us the positional arguments, kw the keywords' values by name, ds the defaults that fill up -/
def Binds (K : PySem.W.Frag) (fd : FuncData) (ps : List Str) (ds : List Value) : Prop :=
  ∀ (s : Shared) (us : List Value), K.In s.heap → (us ++ ds).length = ps.length → BindsTo s fd ⟨us, []⟩ (ps.zip (us ++ ds))
/-- every parameter is given -/
theorem Binds.all {K : PySem.W.Frag} {fd : FuncData} {ps : List Str} (h : ∀ us : List Value, us.length = ps.length → bindArgs fd ⟨us, []⟩ = pure (ps.zip us)) : Binds K fd ps [] := fun s us _ hl => by
  rw [List.append_nil] at hl ⊢
  exact .of_eq (h us hl)

/-- an exception of a callee reaches what this body wants of exceptions -/
def Passes (CX : CXT) (X : Cx) (E : XK) : Prop := ∀ (pins : List (Addr × Obj)) (σ : St) (H : Hp) (s : Shared) (e : Value) (s' : Shared), Inv X pins σ H s → CX X.stack H s E e s' → X.xe e s'

section
variable {X : Cx} {CX : CXT} {k : Nat} {f C : Addr} {fd : FuncData} {ps : List Str} {sp : Sp} {dvs : List V} {ds : List Value} {E : XK} {x m : Str} {p pos apos : Pos} {e o : Expr} {es : List Expr} {ta : TE} {t : TA}

/-- the callee runs -/
theorem run_fn {pins : List (Addr × Obj)} {σ : St} {H : Hp} {s : Shared} {Q : VK} {us : List Value} {vs : List V} (F : FnOk X.prog X.w X.K X.mg X.base CX k f fd ps sp) (hr : Room k X.A) (hb : Binds X.K fd ps ds) (hd : Vals dvs ds) (hx : Passes CX X E)
    (I : Inv X pins σ H s) (r : Vals vs us) (h : sp (vs ++ dvs) H Q E) : wpAny (model X.prog X.w) X.A (call (.ref f) us) (EP X pins σ Q) X.xe s := by
  have r2 : Vals (vs ++ dvs) (us ++ ds) := r.append hd
  have hl : (us ++ ds).length = ps.length := by rw [← r2.length]; exact F.len _ _ _ _ h
  refine wpAny_call (codeAny_mono (F.run X.A X.stack s H ⟨us, []⟩ (us ++ ds) (vs ++ dvs) Q E hr I.env0 (hb s us I.kIn hl) r2 h) fun r s' hq => ?_)
  cases r with
  | error e => exact hx pins σ H s e s' I hq
  | ok fl =>
    cases fl with
    | ret u => exact I.after hq
    | next => exact False.elim hq
    | brk => exact False.elim hq
    | cont => exact False.elim hq

theorem pe_call (F : FnOk X.prog X.w X.K X.mg X.base CX k f fd ps sp) (hr : Room k X.A) (hg : Gl X x) (hm : X.mg x = some (.ref f)) (hk : PySem.W.keepIn X.K (.ref f) = true) (hb : Binds X.K fd ps ds) (hd : Vals dvs ds) (hx : Passes CX X E)
    (ha : PA X (e :: es) t) (hdb : (x == ("__debug__" : Str)) = false := by decide) (he : starEach (e :: es) X.env = (false, eval e X.env) :: starEach es X.env := by rfl) (hpl : (backTo pos (starEach es X.env)).any (·.1) = false := by rfl) :
    PE X (.Call (.Name x p) (e :: es) [] pos) (tCall sp dvs E t) := by
  intro pins s σ H Q I h
  refine wpAny_Call_Name_kw (ld_glob I hg hm ?_ hdb)
  refine PySem.W.callWith_K (h₀ := X.base) I.ok.mod.kin hk (thn (ha pos pins s σ H _ I h) fun us s1 ⟨vs, H1, I1, r, q⟩ => ⟨I1.kIn, ?_⟩) he hpl
  exact run_fn F hr hb hd hx I1 r q
theorem pe_call0 (F : FnOk X.prog X.w X.K X.mg X.base CX k f fd ps sp) (hr : Room k X.A) (hg : Gl X x) (hm : X.mg x = some (.ref f)) (hk : PySem.W.keepIn X.K (.ref f) = true) (hb : Binds X.K fd ps ds) (hd : Vals dvs ds) (hx : Passes CX X E)
    (hdb : (x == ("__debug__" : Str)) = false := by decide) : PE X (.Call (.Name x p) [] [] pos) (tCall sp dvs E tNil) := by
  intro pins s σ H Q I h
  refine wpAny_Call_Name_kw (ld_glob I hg hm ?_ hdb)
  exact PySem.W.callWith_K0 I.kIn hk (run_fn (us := []) F hr hb hd hx I .nil h)

/-- o.m(e, ..) -/
theorem pe_meth {pl : Sem Bool} (he : PE X o ta) (c : Cls X.K C) (hm : Meth X.K C m f) (F : FnOk X.prog X.w X.K X.mg X.base CX k f fd ps sp) (hr : Room k X.A) (hb : Binds X.K fd ps ds) (hd : Vals dvs ds) (hx : Passes CX X E) (ha : PA X (e :: es) t)
    (hst : starEach (e :: es) X.env = (false, eval e X.env) :: starEach es X.env := by rfl) (hpl : (backTo pos (starEach es X.env)).any (·.1) = false := by rfl)
    (ht : eval (.Call (.Attribute o m apos) (e :: es) [] pos) X.env = (do
      let ov ← eval o X.env
      standAt apos.atName
      let (f, first) ← holding [ov] (getMethod ov m pl)
      callWith pos f first (backTo pos (starEach (e :: es) X.env)) (backToKw pos (keywordEach [] X.env))) := by rfl) :
    PE X (.Call (.Attribute o m apos) (e :: es) [] pos) (tMeth C m sp dvs E ta t) := by
  intro pins s σ H Q I h
  refine PySem.W.methodCall_KW (pl := pl) (thn (he pins s σ H _ I h) fun u s1 ⟨x, H1, I1, rx, a, dx, fs, ex, ea, l, q⟩ => ?_) ht
  subst ex
  obtain rfl : u = Value.ref a := rx
  refine getmeth_ok I1 ea c hm l ?_
  refine PySem.W.callWith_K (first := [.ref a]) (h₀ := X.base) I.ok.mod.kin hm.kp (thn (ha pos pins s1 σ H1 _ I1 q) fun us s2 ⟨vs, H2, I2, r, q2⟩ => ⟨I2.kIn, ?_⟩) hst hpl
  exact run_fn (us := .ref a :: us) (vs := .ref a :: vs) F hr hb hd hx I2 (.cons rfl r) q2
/-- o.m() -/
theorem pe_meth0 {pl : Sem Bool} (he : PE X o ta) (c : Cls X.K C) (hm : Meth X.K C m f) (F : FnOk X.prog X.w X.K X.mg X.base CX k f fd ps sp) (hr : Room k X.A) (hb : Binds X.K fd ps ds) (hd : Vals dvs ds) (hx : Passes CX X E)
    (ht : eval (.Call (.Attribute o m apos) [] [] pos) X.env = (do
      let ov ← eval o X.env
      standAt apos.atName
      let (f, first) ← holding [ov] (getMethod ov m pl)
      callWith pos f first (backTo pos (starEach [] X.env)) (backToKw pos (keywordEach [] X.env))) := by rfl) :
    PE X (.Call (.Attribute o m apos) [] [] pos) (tMeth C m sp dvs E ta tNil) := by
  intro pins s σ H Q I h
  refine PySem.W.methodCall_KW (pl := pl) (thn (he pins s σ H _ I h) fun u s1 ⟨x, H1, I1, rx, a, dx, fs, ex, ea, l, q⟩ => ?_) ht
  subst ex
  obtain rfl : u = Value.ref a := rx
  refine getmeth_ok I1 ea c hm l ?_
  exact PySem.W.callWith_K0 (first := [.ref a]) I1.kIn hm.kp (run_fn (us := [.ref a]) (vs := [.ref a]) F hr hb hd hx I1 (.cons rfl .nil) q)

/-- what a class must have to be made -/
structure Mk (K : PySem.W.Frag) (C f : Addr) : Prop where
  makes : PySem.W.makesIn K C = true
  init : PySem.W.findIn K (.ref C) "__init__" = some (some (.ref f))
  fn : PySem.W.isFn K (.ref f) = true
  kp : PySem.W.keepIn K (.ref C) = true

theorem run_make {pins : List (Addr × Obj)} {σ : St} {H : Hp} {s : Shared} {Q : VK} {us : List Value} {vs : List V} (M : Mk X.K C f) (F : FnOk X.prog X.w X.K X.mg X.base CX k f fd ps sp) (hr : Room (k + 1) X.A) (hb : Binds X.K fd ps ds) (hd : Vals dvs ds)
    (hx : Passes CX X E) (I : Inv X pins σ H s) (r : Vals vs us)
    (h : ∀ x dx, H x = none → H dx = none → dx ≠ x → sp (.ref x :: (vs ++ dvs)) (upd (upd H dx (.own x)) x (.ins C dx [])) (fun v H2 => v = .non ∧ Q (.ref x) H2) E) :
    wpAny (model X.prog X.w) X.A (call (.ref C) us) (EP X pins σ Q) X.xe s := by
  have hq := h (s.heap.objs.size + 1) s.heap.objs.size (I.hok.fresh (Nat.le_succ _)) (I.hok.fresh (Nat.le_refl _)) (Nat.ne_of_lt (Nat.lt_succ_self _))
  have I2 := Inv.made (C := C) I
  have r2 : Vals (V.ref (s.heap.objs.size + 1) :: (vs ++ dvs)) (Value.ref (s.heap.objs.size + 1) :: (us ++ ds)) := .cons rfl (r.append hd)
  have hl : (Value.ref (s.heap.objs.size + 1) :: us ++ ds).length = ps.length := by
    have e := r2.length
    rw [F.len _ _ _ _ hq] at e
    exact e.symm
  refine wpAny_call (make_map (f := f) I.kIn M.makes M.init (beq_iff_eq.mp M.fn) (codeAny_mono (F.run _ X.stack _ _ ⟨Value.ref (s.heap.objs.size + 1) :: us, []⟩ (Value.ref (s.heap.objs.size + 1) :: (us ++ ds)) _ _ E (hr.make C us [])
    (I2.env0.make C us []) (hb _ (Value.ref (s.heap.objs.size + 1) :: us) I2.kIn hl) r2 hq) fun r s' hq' => ?_))
  cases r with
  | error e => exact hx pins σ _ _ e s' I2 hq'
  | ok fl =>
    cases fl with
    | ret u =>
      obtain ⟨v, H', I3, rv, ev, q3⟩ := I2.after hq'
      subst ev
      exact ⟨rv, ⟨V.ref (s.heap.objs.size + 1), H', I3, rfl, q3⟩⟩
    | next => exact False.elim hq'
    | brk => exact False.elim hq'
    | cont => exact False.elim hq'
theorem pe_make (M : Mk X.K C f) (F : FnOk X.prog X.w X.K X.mg X.base CX k f fd ps sp) (hr : Room (k + 1) X.A) (hg : Gl X x) (hm : X.mg x = some (.ref C)) (hb : Binds X.K fd ps ds) (hd : Vals dvs ds) (hx : Passes CX X E)
    (ha : PA X (e :: es) t) (hdb : (x == ("__debug__" : Str)) = false := by decide) (he : starEach (e :: es) X.env = (false, eval e X.env) :: starEach es X.env := by rfl) (hpl : (backTo pos (starEach es X.env)).any (·.1) = false := by rfl) :
    PE X (.Call (.Name x p) (e :: es) [] pos) (tMake C sp dvs E t) := by
  intro pins s σ H Q I h
  refine wpAny_Call_Name_kw (ld_glob I hg hm ?_ hdb)
  refine PySem.W.callWith_K (h₀ := X.base) I.ok.mod.kin M.kp (thn (ha pos pins s σ H _ I h) fun us s1 ⟨vs, H1, I1, r, q⟩ => ⟨I1.kIn, ?_⟩) he hpl
  exact run_make M F hr hb hd hx I1 r q
theorem pe_make0 (M : Mk X.K C f) (F : FnOk X.prog X.w X.K X.mg X.base CX k f fd ps sp) (hr : Room (k + 1) X.A) (hg : Gl X x) (hm : X.mg x = some (.ref C)) (hb : Binds X.K fd ps ds) (hd : Vals dvs ds) (hx : Passes CX X E)
    (hdb : (x == ("__debug__" : Str)) = false := by decide) : PE X (.Call (.Name x p) [] [] pos) (tMake C sp dvs E tNil) := by
  intro pins s σ H Q I h
  refine wpAny_Call_Name_kw (ld_glob I hg hm ?_ hdb)
  exact PySem.W.callWith_K0 I.kIn M.kp (run_make (us := []) M F hr hb hd hx I .nil h)
end

/-! ### keywords -/
section
variable {X : Cx} {CX : CXT} {k : Nat} {f C : Addr} {fd : FuncData} {ps ks : List Str} {sp : Sp} {E : XK} {x m : Str} {p pos apos kpos : Pos} {e o : Expr} {es : List Expr} {kws : List Keyword} {te ta : TE} {t tk : TA} {nm : Option Str}

variable {g : List Value → List Value → List Value} {gV : List V → List V → List V}
end

/-! ### a def's body keeps its promise -/
/-- names: the parameters first -/
structure FnScope (N P : List Str) (sc : Scope) : Prop where
  kind : sc.kind = .function
  co : sc.isCoroutine = false
  gen : sc.isGenerator = false
  nd : N.Nodup
  pre : N.take P.length = P
  par : ∀ x ∈ P, sc.names.lookup x = some .local ∨ sc.names.lookup x = some .cell
  nofree : ∀ y ∈ sc.names, y.2 ≠ .free

theorem bindL_out {kindOf : Str → Option NameKind} {x : Str} : ∀ {binds : List (Str × Value)} {m : Str → Option Value}, (∀ v, (x, v) ∉ binds) → bindL kindOf binds m x = m x
  | [], _, _ => rfl
  | (n, v) :: r, m, h => by
    unfold bindL
    rw [bindL_out fun w hw => h w (List.mem_cons_of_mem _ hw)]
    split
    · have : x ≠ n := by rintro rfl; exact h v List.mem_cons_self
      simp [this]
    · rfl
theorem bindC_out {kindOf : Str → Option NameKind} {x : Str} : ∀ {binds : List (Str × Value)} {m : Str → Option Value}, (∀ v, (x, v) ∉ binds) → bindC kindOf binds m x = m x
  | [], _, _ => rfl
  | (n, v) :: r, m, h => by
    unfold bindC
    rw [bindC_out fun w hw => h w (List.mem_cons_of_mem _ hw)]
    split
    · rfl
    · have : x ≠ n := by rintro rfl; exact h v List.mem_cons_self
      simp [this]
theorem bindL_get {kindOf : Str → Option NameKind} {x : Str} {v : Value} : ∀ {P : List Str} {vs : List Value} {i : Nat} {m : Str → Option Value}, P.Nodup → P[i]? = some x → vs[i]? = some v → kindOf x = some .local →
    bindL kindOf (P.zip vs) m x = some v
  | [], _, _, _, _, h, _, _ => by simp at h
  | _ :: _, [], _, _, _, _, h, _ => by simp at h
  | p :: P, w :: vs, 0, m, nd, h1, h2, hk => by
    simp at h1 h2; subst h1; subst h2
    show bindL kindOf ((p, w) :: P.zip vs) m p = _
    unfold bindL
    rw [bindL_out fun v hv => (List.nodup_cons.mp nd).1 (List.of_mem_zip hv).1, if_pos hk]
    simp
  | p :: P, w :: vs, i + 1, m, nd, h1, h2, hk => by
    show bindL kindOf ((p, w) :: P.zip vs) m x = _
    unfold bindL
    exact bindL_get (i := i) (List.nodup_cons.mp nd).2 (by simpa using h1) (by simpa using h2) hk
theorem bindC_get {kindOf : Str → Option NameKind} {x : Str} {v : Value} : ∀ {P : List Str} {vs : List Value} {i : Nat} {m : Str → Option Value}, P.Nodup → P[i]? = some x → vs[i]? = some v → kindOf x ≠ some .local →
    bindC kindOf (P.zip vs) m x = some v
  | [], _, _, _, _, h, _, _ => by simp at h
  | _ :: _, [], _, _, _, _, h, _ => by simp at h
  | p :: P, w :: vs, 0, m, nd, h1, h2, hk => by
    simp at h1 h2; subst h1; subst h2
    show bindC kindOf ((p, w) :: P.zip vs) m p = _
    unfold bindC
    rw [bindC_out fun v hv => (List.nodup_cons.mp nd).1 (List.of_mem_zip hv).1, if_neg hk]
    simp
  | p :: P, w :: vs, i + 1, m, nd, h1, h2, hk => by
    show bindC kindOf ((p, w) :: P.zip vs) m x = _
    unfold bindC
    exact bindC_get (i := i) (List.nodup_cons.mp nd).2 (by simpa using h1) (by simpa using h2) hk

/-- the names' values at the entry -/
def start (N : List Str) (vs : List V) : St := vs.map some ++ List.replicate (N.length - vs.length) none

/-- the context of a def's body, at its entry; an exception leaves the frame, then lies as CX says -/
def cxOf (CX : CXT) (P : Program) (w : World) (K : PySem.W.Frag) (mg : Str → Option Value) (base : Heap) (N : List Str) (qual : Str) (scope : Scope) (f : Addr) (cd : Value) (A : Around) (outer : List Env) (s : Shared) (H : Hp) (E : XK) : Cx where
  prog := P
  w := w
  K := K
  mg := mg
  base := base
  A := A.deeper (envOfC qual scope s.heap.objs.size f cd)
  N := N
  s_0 := s
  H_0 := H
  env := envOfC qual scope s.heap.objs.size f cd
  outer := outer
  stack := envOfC qual scope s.heap.objs.size f cd :: outer
  ex := []
  calm := true
  fn := fun _ => true
  pn := []
  xe := fun e s' => wpAny (model P w) (A.deeper (envOfC qual scope s.heap.objs.size f cd)) (leaving (envOfC qual scope s.heap.objs.size f cd) e) (fun _ s'' => CX outer H s E e s'') (fun e' s'' => CX outer H s E e' s'') s'

theorem cell_has {sc : Scope} {n : Nat} {x : Str} (h : sc.names.lookup x = some .cell) : ∃ c, (cellsFrom n sc.names []).lookup x = some c := by
  have q := PySem.W.cellsFrom_some sc.names n [] (.inl h)
  exact Option.isSome_iff_exists.mp q

theorem inv_start {CX : CXT} {P : Program} {w : World} {K : PySem.W.Frag} {mg : Str → Option Value} {base : Heap} {N ps : List Str} {qual : Str} {scope : Scope} {f : Addr} {cd : Value} {A : Around} {outer : List Env} {s s1 : Shared} {H : Hp} {E : XK} {us : List Value} {vs : List V}
    (S : FnScope N ps scope) (hd : A.handled = none) (e0 : Env0 P w K mg base A outer s H) (hl : vs.length = ps.length) (r : Vals vs us)
    (x : InCallC s s.heap.objs.size (bindL (envOfC qual scope s.heap.objs.size f cd).kindOf (ps.zip us) fun _ => none) (cellsFrom (s.heap.objs.size + 1) scope.names []) (bindC (envOfC qual scope s.heap.objs.size f cd).kindOf (ps.zip us) fun _ => none) s1) :
    Inv (cxOf CX P w K mg base N qual scope f cd A outer s H E) [] (start N vs) H s1 := by
  have hpl : ps.length ≤ N.length := by have := congrArg List.length S.pre; rw [List.length_take] at this; omega
  obtain ⟨h1, tk, rfl, hk⟩ := x.done
  have noA : ∀ b : Addr, b ∉ (cxOf CX P w K mg base N qual scope f cd A outer s H E).ex := fun b z => absurd (show b ∈ ([] : List Addr) from z) (by simp)
  refine ⟨⟨e0.mod, S.kind, rfl, rfl, Nat.le_refl _, fun y z c h1 h2 => ?_, fun y hy => ?_, fun y c _ h => ?_, fun _ => hd, Around.frames_deeper e0.frames, .inr ⟨rfl, rfl⟩, fun b z => absurd z (noA b), e0.bs, e0.bsz, fun b _ _ => noA b, fun b z => absurd z (noA b), e0.funs, e0.frf⟩,
    rfl, e0.bare, Un.kept hk, ⟨_, x.toInCall.ns, fun i y v h1 h2 h3 => ?_⟩, fun y c h => ⟨_, x.cell y c h⟩, e0.hok.fresh (Nat.le_refl _), fun y c h => ?_, fun p hp => absurd (show p ∈ ([] : List (Addr × Obj)) from hp) (by simp), e0.hok.kept hk, ?_⟩
  · exact name_of_addr x.apart (PySem.mem_of_lookup h1) (PySem.mem_of_lookup h2)
  · have hy : scope.names.lookup y = some .cell ∨ scope.names.lookup y = some .free := hy
    rcases hy with hy | hy
    · exact cell_has hy
    · exact absurd rfl (S.nofree _ (PySem.mem_of_lookup hy))
  · exact Nat.le_of_lt (x.above y c (PySem.mem_of_lookup h))
  · have hi : i < vs.length := by
      unfold start at h2
      by_cases hi : i < vs.length
      · exact hi
      · rw [List.getElem?_append_right (by simpa using hi)] at h2
        rw [List.getElem?_replicate] at h2
        split at h2 <;> cases h2
    have ha : vs[i]? = some v := by
      unfold start at h2
      rw [List.getElem?_append_left (by simpa using hi), List.getElem?_map] at h2
      cases e : vs[i]? with
      | none => rw [e] at h2; cases h2
      | some a => rw [e] at h2; cases h2; rfl
    obtain ⟨u, hu, rv⟩ := r.get ha
    have hp : ps[i]? = some y := by
      rw [← S.pre, List.getElem?_take_of_lt (by omega)]; exact h1
    have ndP : ps.Nodup := by rw [← S.pre]; exact S.nd.sublist (List.take_sublist _ _)
    refine ⟨u, rv, ?_⟩
    rcases S.par y (List.mem_of_getElem? hp) with k | k
    · exact .inl ⟨k, bindL_get ndP hp hu k⟩
    · obtain ⟨c, e⟩ := cell_has (n := s.heap.objs.size + 1) k
      refine .inr ⟨.inl k, c, e, ?_⟩
      have q := x.cell y c e
      rw [bindC_get ndP hp hu (by show scope.names.lookup y ≠ _; rw [k]; decide)] at q
      exact q
  · exact e0.hok.fresh (Nat.le_of_lt (x.above y c (PySem.mem_of_lookup h)))
  · unfold start
    show _ = N.length
    rw [List.length_append, List.length_map, List.length_replicate]
    omega

/-- THE RULE: a def (or a method) of the text, by its body. The body's reading t is chosen for each entry; it is run at the parameters' values -/
theorem fn_of {CX : CXT} {P : Program} {w : World} {K : PySem.W.Frag} {mg : Str → Option Value} {base : Heap} {k : Nat} {f : Addr} {name qual : Str} {params : Arguments} {body : List Stmt} {scope : Scope} {dV kV doc pm cdv ct oc : Value} {an od : Option Addr}
    {osl : Array (Option Value)} {N ps : List Str} {sp : Sp} (lk : K.lookup f = some ⟨oc, od, .func (PySem.W.fnOf name qual params body scope dV kV doc pm an cdv ct), osl⟩) (hcd : PySem.W.codeIn K cdv qual = true) (S : FnScope N ps scope)
    (len : ∀ vs H Q E, sp vs H Q E → vs.length = ps.length)
    (hbody : ∀ (A : Around) (outer : List Env) (s : Shared) (H : Hp) (vs : List V) (Q : VK) (E : XK), Room k (A.deeper (envOfC qual scope s.heap.objs.size f cdv)) → sp vs H Q E →
      ∃ t, PSs (cxOf CX P w K mg base N qual scope f cdv A outer s H E) body t ∧ t { nx := fun _ H' => Q .non H', rt := Q } (start N vs) H) :
    FnOk P w K mg base CX (k + 1) f (PySem.W.fnOf name qual params body scope dV kV doc pm an cdv ct) ps sp := by
  refine ⟨len, fun A outer s H args us vs Q E hr e0 hb r hsp => ?_⟩
  have hl := len _ _ _ _ hsp
  have KX : K.In s.heap := e0.mod.kin.keeps fun b o e => (e0.bs b o e).1
  have lim : s.heap.NoLimit := e0.mod.nolimit.keeps fun b o e => (e0.bs b o e).1
  have hkind : ∀ y ∈ ps.zip us, scope.names.lookup y.1 = some .local ∨ (scope.names.lookup y.1 = some .cell ∧ ((cellsFrom (s.heap.objs.size + 1) scope.names []).lookup y.1).isSome = true) := fun ⟨n, v⟩ hy => by
    rcases S.par n (List.of_mem_zip hy).1 with q | q
    · exact .inl q
    · exact .inr ⟨q, PySem.W.cellsFrom_some _ _ _ (.inl q)⟩
  refine codeAny_call_function hr.depth (KX _ _ lk) rfl S.co S.gen rfl (PySem.W.codeRec_of KX hcd) (hb _ _ _ _ ?_)
  refine wpAny_newFunctionEnv_cells S.kind hkind fun env he s1 x => ?_
  subst he
  refine ⟨lim.keeps x.toInCall.keep, codeAny_func ?_⟩
  obtain ⟨t, ht, hq⟩ := hbody A outer s H vs Q E (hr.deeper _) hsp
  have I : Inv (cxOf CX P w K mg base N qual scope f cdv A outer s H E) [] (start N vs) H s1 := inv_start S hr.hd e0 hl r x
  refine wpAny_mono (ht [] s1 (start N vs) H _ I hq) (fun fl s' hs => ?_) fun e s' hs => hs
  have fin : ∀ {σ' : St} {H' : Hp} {v : V} {u : Value}, Inv (cxOf CX P w K mg base N qual scope f cdv A outer s H E) [] σ' H' s' → RelV v u → Q v H' → CE outer P w H s Q u s' :=
    fun {σ' H' v u} J rv q => ⟨v, H', J.os, J.bare, J.base, J.hok, rv, q⟩
  cases fl with
  | ret u =>
    obtain ⟨v, σ', H', J, rv, q⟩ := hs
    exact fin J rv q
  | next =>
    obtain ⟨σ', H', J, q⟩ := hs
    exact fin (v := V.non) (u := Value.none) J rfl q
  | brk =>
    obtain ⟨_, _, _, q⟩ := hs
    exact False.elim q
  | cont =>
    obtain ⟨_, _, _, q⟩ := hs
    exact False.elim q
end L2

namespace L2
open PySem PySem.Spec PyProof.Rows
section
variable {X : Cx} {x : Str} {p pos : Pos} {e : Expr} {es : List Expr} {t : TA} {id T : String} {r : List V → Hp → VK → Prop}

def tCB (r : List V → Hp → VK → Prop) (t : TA) : TE := fun σ H Q => t σ H fun vs H1 => r vs H1 Q
/-- f(e, ..), f a built-in function -/
theorem pe_callB (hc : CallR X (.builtin id) r) (hg : Gl X x) (hm : X.mg x = none) (hv : bootBuiltins x = some (.builtin id)) (ha : PA X (e :: es) t) (hn : x ≠ "__name__" := by decide) (hdb : (x == ("__debug__" : Str)) = false := by decide)
    (he : starEach (e :: es) X.env = (false, eval e X.env) :: starEach es X.env := by rfl) (hpl : (backTo pos (starEach es X.env)).any (·.1) = false := by rfl) : PE X (.Call (.Name x p) (e :: es) [] pos) (tCB r t) := by
  intro pins s σ H Q I h
  refine wpAny_Call_Name_kw (ld_blt I hg hm hv ?_ hn hdb)
  exact PyProof.Rows.callWith_builtin1 (thn (ha pos pins s σ H _ I h) fun us s1 ⟨vs, H1, I1, r1, q1⟩ => hc pins s1 σ H1 vs us Q I1 r1 q1) he hpl
/-- T(e, ..), T a built-in type -/
theorem pe_callTy (hc : CallR X (.type T) r) (hg : Gl X x) (hm : X.mg x = none) (hv : bootBuiltins x = some (.type T)) (ha : PA X (e :: es) t) (hn : x ≠ "__name__" := by decide) (hdb : (x == ("__debug__" : Str)) = false := by decide)
    (he : starEach (e :: es) X.env = (false, eval e X.env) :: starEach es X.env := by rfl) (hpl : (backTo pos (starEach es X.env)).any (·.1) = false := by rfl) : PE X (.Call (.Name x p) (e :: es) [] pos) (tCB r t) := by
  intro pins s σ H Q I h
  refine wpAny_Call_Name_kw (ld_blt I hg hm hv ?_ hn hdb)
  exact PyProof.Rows.callWith_type1 (thn (ha pos pins s σ H _ I h) fun us s1 ⟨vs, H1, I1, r1, q1⟩ => hc pins s1 σ H1 vs us Q I1 r1 q1) he hpl
end
end L2

namespace HT
open PySem PyProof.Rows



section
open PySem.SeqAt
open PySem.AutoSeq1 (wpAny_loadPart')
open PySem.MeetsSeq PySem.MeetsSeq2 PySem.MeetsSeq3

end

section
variable {prog : Program} {w : World} {A : Around} {E : Value → Shared → Prop} {s : Shared}


/-- t + u, t not empty -/
theorem cat_tup {t b : Addr} {vs ws : List Value} {Q : Value → Shared → Prop} (ht : IsTup s.heap t vs.toArray) (hb : IsTup s.heap b ws.toArray) (hv : vs ≠ [])
    (h1 : ws = [] → Q (.ref t) s) (h2 : ws ≠ [] → Q (.ref s.heap.objs.size) { s with heap := s.heap.push { cls := .type "tuple", data := .seq (vs ++ ws).toArray } })
    (hsz : vs.length + ws.length ≤ sizeLine) : wpAny (model prog w) A (binaryOp .Add (.ref t) (.ref b)) Q E s := by
  obtain ⟨⟨cls, dd, data, sl⟩, ho, hc, n, hd⟩ := id ht
  obtain ⟨⟨cls2, dd2, data2, sl2⟩, ho2, hc2, n2, hd2⟩ := id hb
  simp only at hc hd hc2 hd2
  subst hc hd hc2 hd2
  have e : vs.toArray ++ ws.toArray = (vs ++ ws).toArray := by simp
  by_cases hw : ws = []
  · exact concat_meets ⟨_, ho, rfl⟩ ⟨_, ho2, rfl⟩ noFill_tuple_add seq_tuple_add PySem.F.slot_tuple_add PySem.F.entry_tuple_add (PySem.F.args_tuple_add_2 _ _)
      (tuple_addW1 t b vs.toArray ws.toArray n n2 dd dd2 sl sl2 (by simpa using hv) (by simp [hw])) ⟨ho, ho2, h1 hw⟩
  · refine concat_meets ⟨_, ho, rfl⟩ ⟨_, ho2, rfl⟩ noFill_tuple_add seq_tuple_add PySem.F.slot_tuple_add PySem.F.entry_tuple_add (PySem.F.args_tuple_add_2 _ _)
      (tuple_addW2 t b vs.toArray ws.toArray n n2 dd dd2 sl sl2 (by simpa using hv) (by simpa using hw) (by rw [List.size_toArray, List.size_toArray]; exact hsz)) ⟨ho, ho2, ?_⟩
    rw [e]
    exact h2 hw

/-! ### t[a:b], not the whole -/
/-- a slice's bound as a place among n (d where it is left out) -/
def sIx (n d : Nat) : Option Int → Nat
  | none => d
  | some v => if v < 0 then (v + (n : Int)).toNat else min v.toNat n
theorem sIx_le (n d : Nat) (hd : d ≤ n) (o : Option Int) : sIx n d o ≤ n := by
  cases o with
  | none => exact hd
  | some v =>
    show (if v < 0 then (v + (n : Int)).toNat else min v.toNat n) ≤ n
    by_cases hv : v < 0
    · rw [if_pos hv]; omega
    · rw [if_neg hv]; exact Nat.min_le_right _ _
theorem clip_eq (v : Int) (n d : Nat) : (if v < 0 then max (v + (n : Int)) 0 else min v (n : Int)) = ((sIx n d (some v) : Nat) : Int) := by
  show (if v < 0 then max (v + (n : Int)) 0 else min v (n : Int)) = (((if v < 0 then (v + (n : Int)).toNat else min v.toNat n) : Nat) : Int)
  by_cases hv : v < 0
  · simp only [if_pos hv]; omega
  · simp only [if_neg hv]; omega
theorem adjust_gen (lo hi : Option Int) (n : Nat) : Builtin.Slice.sliceAdjust lo hi 1 (n : Int) = (((sIx n 0 lo : Nat) : Int), ((sIx n n hi : Nat) : Int)) := by
  have h1 : ¬ ((1 : Int) < 0) := by omega
  unfold Builtin.Slice.sliceAdjust
  simp only [h1, if_false]
  refine Prod.ext ?_ ?_
  · cases lo with
    | none => rfl
    | some v => exact clip_eq v n 0
  · cases hi with
    | none => rfl
    | some v => exact clip_eq v n n
theorem places_gen (i j : Nat) : Builtin.Slice.slicePlaces (i : Int) (j : Int) 1 = j - i := by
  unfold Builtin.Slice.slicePlaces
  have h1 : (1 : Int) > 0 := by omega
  simp only [h1, if_true, Int.ediv_one]
  split <;> omega
theorem slicePart_ {v : Value} {o : Option Int} {Q : Option Int → Shared → Prop} (p : IsPart v o) (h : Q o s) : wpAny (model prog w) A (Builtin.Slice.slicePartIndex v) Q E s := by
  cases p with
  | none => exact slicePart_none h
  | int i t => exact slicePart_int h
theorem sliceApplied_gen {sl : Addr} {vl vu : Value} {lo hi : Option Int} {n : Nat} {Q : Int × Int × Nat → Shared → Prop} (hs : s.heap.IsSliceOf sl vl vu .none) (pl : IsPart vl lo) (pu : IsPart vu hi)
    (h : Q (((sIx n 0 lo : Nat) : Int), 1, sIx n n hi - sIx n 0 lo) s) : wpAny (model prog w) A (Builtin.Slice.sliceApplied (.ref sl) (pure (n : Int))) Q E s := by
  obtain ⟨os, hos, hcs, hds⟩ := id hs
  unfold Builtin.Slice.sliceApplied Builtin.Slice.sliceFields
  refine wpAny_bind (wpAny_bind (wpAny_field hos hds (x := vl) rfl (wpAny_bind (wpAny_field hos hds (x := vu) rfl (wpAny_bind (wpAny_field hos hds (x := .none) rfl (wpAny_pure ?_)))))))
  refine wpAny_bind (slicePart_none ?_)
  show wpAny _ _ (if ((1 : Int) == 0) = true then _ else _) _ _ s
  rw [if_neg (by decide)]
  refine wpAny_bind (slicePart_ pl (wpAny_bind (slicePart_ pu (wpAny_bind (wpAny_pure ?_)))))
  show wpAny _ _ (match Builtin.Slice.sliceAdjust lo hi 1 (n : Int) with | (lo, hi) => pure (lo, (1 : Int), Builtin.Slice.slicePlaces lo hi 1)) _ _ s
  rw [adjust_gen lo hi n]
  show wpAny _ _ (pure (((sIx n 0 lo : Nat) : Int), (1 : Int), Builtin.Slice.slicePlaces ((sIx n 0 lo : Nat) : Int) ((sIx n n hi : Nat) : Int) 1)) _ _ s
  rw [places_gen]
  exact wpAny_pure h
theorem pick_gen (xs : Array Value) (i k : Nat) : ((List.range k).filterMap fun (m : Nat) => xs[((i : Int) + (m : Int) * 1).toNat]?).toArray = ((xs.toList.drop i).take k).toArray := by
  have e : (fun (m : Nat) => xs[((i : Int) + (m : Int) * 1).toNat]?) = fun m => xs[i + m]? := by
    funext m
    have : ((i : Int) + (m : Int) * 1).toNat = i + m := by omega
    rw [this]
  rw [e]
  have := pick_run xs i k
  rw [List.filterMap_map] at this
  have e2 : ((fun x => xs[x]?) ∘ fun x => i + x) = fun m => xs[i + m]? := rfl
  rw [e2] at this
  rw [this]

theorem getItem_tuple_cut {t sl : Addr} {items : Array Value} {vl vu : Value} {lo hi : Option Int} {Q : Value → Shared → Prop} (ht : IsTup s.heap t items) (hs : s.heap.IsSliceOf sl vl vu .none) (pl : IsPart vl lo) (pu : IsPart vu hi)
    (hw : ¬ (sIx items.size 0 lo = 0 ∧ sIx items.size items.size hi = items.size))
    (h : Q (.ref s.heap.objs.size) { s with heap := s.heap.push { cls := .type "tuple", data := .seq ((items.toList.drop (sIx items.size 0 lo)).take (sIx items.size items.size hi - sIx items.size 0 lo)).toArray } })
    (hsz : items.size ≤ sizeLine) : wpAny (model prog w) A (getItem (.ref t) (.ref sl)) Q E s := by
  have htake : sizeOk (.seq ((items.toList.drop (sIx items.size 0 lo)).take (sIx items.size items.size hi - sIx items.size 0 lo)).toArray) := by
    show ((items.toList.drop (sIx items.size 0 lo)).take (sIx items.size items.size hi - sIx items.size 0 lo)).toArray.size ≤ sizeLine
    rw [List.size_toArray, List.length_take, List.length_drop, Array.length_toList]
    omega
  have hj : sIx items.size items.size hi ≤ items.size := sIx_le _ _ (Nat.le_refl _) hi
  obtain ⟨os, hos, hcs, hds⟩ := id hs
  have hTs : s.TypeIs (.ref sl) "slice" := ⟨os, hos, hcs⟩
  unfold getItem
  try with_reducible refine wpAny_holding ?_
  first | refine wpAny_bind (wpAny_pure ?_) | skip
  refine wpAny_bind (wpAny_sequenceKey ht.typeIs (by decide) ?_)
  refine wpAny_bind (wpAny_callSpecial?_slot (name := Str.ofString "__getitem__") ht.typeIs PyProof.Rows.slot_tuple_getitem
    (wpAny_call_entry PyProof.Rows.slot_tuple_getitem ht.typeIs entry_tuple_getitem ?_ (args_tuple_getitem _ _)))
  show wpAny _ _ (Builtin.Tuple.tupleItemsOf (.ref t) >>= _) _ _ s
  refine wpAny_bind (tupleItemsOf_ ht ?_)
  refine wpAny_bind (wpAny_typeOf hTs ?_)
  rw [if_pos (by decide)]
  refine wpAny_bind (sliceApplied_gen hs pl pu ?_)
  have hno : ¬ ((((sIx items.size 0 lo : Nat) : Int) == 0 && (1 : Int) == 1 && (sIx items.size items.size hi - sIx items.size 0 lo) == items.size) = true) := by
    intro q
    rw [Bool.and_eq_true, Bool.and_eq_true] at q
    have q1 : ((sIx items.size 0 lo : Nat) : Int) = 0 := eq_of_beq q.1.1
    have q2 : sIx items.size items.size hi - sIx items.size 0 lo = items.size := eq_of_beq q.2
    exact hw ⟨by omega, by omega⟩
  show wpAny _ _ (if (((sIx items.size 0 lo : Nat) : Int) == 0 && (1 : Int) == 1 && (sIx items.size items.size hi - sIx items.size 0 lo) == items.size) = true then _ else _) _ _ s
  rw [if_neg hno, pick_gen]
  first
    | exact wpAny_bind (m := Builtin.Tuple.tupleExact _) (wpAny_newObj_type (wpAny_pure ⟨_, rfl, wpAny_pure h⟩) htake)
    | exact wpAny_bind (m := Builtin.Tuple.tupleExact _) (wpAny_newObj_type (wpAny_bind (wpAny_pure (wpAny_pure ⟨_, rfl, wpAny_pure h⟩))) htake)
    | exact wpAny_bind (wpAny_bind (m := Builtin.Tuple.tupleExact _) (wpAny_newObj_type (wpAny_pure (wpAny_pure ⟨_, rfl, wpAny_pure h⟩)) htake))
    | exact wpAny_bind (wpAny_bind (m := Builtin.Tuple.tupleExact _) (wpAny_newObj_type (wpAny_pure ⟨_, rfl, wpAny_pure h⟩) htake))
end
end HT

namespace L2
open PySem PySem.Spec PyProof.Rows

/-! ### the parts of a slice -/
abbrev TO := St → Hp → (Option Int → Hp → Prop) → Prop
/-- a slice's part (left out, or an int) -/
def PO (X : Cx) (e : Option Expr) (t : TO) : Prop :=
  ∀ (pins : List (Addr × Obj)) (s : Shared) (σ : St) (H : Hp) (Q : Option Int → Hp → Prop), Inv X pins σ H s → t σ H Q →
    wpAny (model X.prog X.w) X.A (evalPart e X.env) (fun u s' => ∃ o H', Inv X pins σ H' s' ∧ IsPart u o ∧ Q o H') X.xe s
def tNoPart : TO := fun _ H Q => Q none H
def tPart (t : TE) : TO := fun σ H Q => t σ H fun x H1 => ∃ i, x = .int i ∧ Q (some i) H1


section
variable {X : Cx} {e : Expr} {te : TE} {lo hi : Option Expr} {tl th : TO} {pos p2 : Pos}

theorem po_none : PO X none tNoPart := by
  intro pins s σ H Q I h
  rw [evalPart_none]
  exact wpAny_pure ⟨none, H, I, .none, h⟩
theorem po_some (h : PE X e te) : PO X (some e) (tPart te) := by
  intro pins s σ H Q I hw
  rw [evalPart_some]
  refine thn (h pins s σ H _ I hw) fun u s1 ⟨x, H1, I1, r1, q1⟩ => ?_
  obtain ⟨i, rfl, q⟩ := q1
  obtain ⟨t, rfl⟩ := r1
  exact ⟨some i, H1, I1, .int i t, q⟩

/-- what a slice of a value is, by values: the slice object stands at sl -/
def SlR (X : Cx) (r : V → Option Int → Option Int → Hp → VK → Prop) : Prop :=
  ∀ (pins : List (Addr × Obj)) (s : Shared) (σ : St) (H : Hp) (x : V) (v vl vu : Value) (lo hi : Option Int) (sl : Addr) (Q : VK), Inv X pins σ H s → RelV x v → s.heap.IsSliceOf sl vl vu .none → IsPart vl lo → IsPart vu hi → r x lo hi H Q →
    ∃ T id, typeLookup (.type T) "__getitem__" = pure (some (.builtin id)) ∧ s.TypeIs v T ∧ wpAny (model X.prog X.w) X.A (getItem v (.ref sl)) (EP X pins σ Q) X.xe s
def tSl (r : V → Option Int → Option Int → Hp → VK → Prop) (te : TE) (tl th : TO) : TE := fun σ H Q => te σ H fun x H1 => tl σ H1 fun l H2 => th σ H2 fun u H3 => r x l u H3 Q
/-- a[lo:hi], any a -/
theorem pe_slice {r : V → Option Int → Option Int → Hp → VK → Prop} (hr : SlR X r) (he : PE X e te) (hl : PO X lo tl) (hu : PO X hi th) : PE X (.Subscript e (.Slice lo hi none p2) pos) (tSl r te tl th) := by
  intro pins s σ H Q I h
  refine Subscript_ (thn (he pins s σ H _ I h) fun v s1 ⟨x, H1, I1, r1, q1⟩ => ?_)
  refine wpAny_Slice (thn (hl pins s1 σ H1 _ I1 q1) fun vl s2 ⟨l, H2, I2, pl, q2⟩ => thn (hu pins s2 σ H2 _ I2 q2) fun vu s3 ⟨u, H3, I3, pu, q3⟩ => ?_)
  rw [evalPart_none]
  refine wpAny_pure ?_
  have I4 : Inv X pins σ H3 { s3 with heap := s3.heap.push { cls := .type "slice", data := .fields #[vl, vu, .none] } } := I3.kept (t' := s3.toks) fun b ob q => Heap.get?_push_of_some _ q
  obtain ⟨T, id, hT, ht, hg⟩ := hr pins { s3 with heap := s3.heap.push { cls := .type "slice", data := .fields #[vl, vu, .none] } } σ H3 x v vl vu l u s3.heap.objs.size Q I4 r1 (Heap.IsSliceOf.new ..) pl pu q3
  show wpAny (model X.prog X.w) X.A (subscriptTail e (.Slice lo hi none p2) v (.ref s3.heap.objs.size)) (EP X pins σ Q) X.xe { s3 with heap := s3.heap.push { cls := .type "slice", data := .fields #[vl, vu, .none] } }
  exact tail_any (ops := [.ref s3.heap.objs.size, v]) ht hT hg (by with_unfolding_all rfl)

/-- the items of xs[lo:hi] -/
def cutV (xs : List V) (lo hi : Option Int) : List V := (xs.drop (HT.sIx xs.length 0 lo)).take (HT.sIx xs.length xs.length hi - HT.sIx xs.length 0 lo)
theorem cutV_length (xs : List V) (lo hi : Option Int) : (cutV xs lo hi).length ≤ xs.length := by
  unfold cutV
  rw [List.length_take, List.length_drop]
  omega
/-- t[lo:hi], not the whole of it (the whole would be t itself) -/
def rSlT (K : PySem.W.Frag) : V → Option Int → Option Int → Hp → VK → Prop := fun x lo hi H Q => ∃ a xs, x = .ref a ∧ SqT K H a xs ∧
  ¬ (HT.sIx xs.length 0 lo = 0 ∧ HT.sIx xs.length xs.length hi = xs.length) ∧ ∀ p, H p = none → Q (.ref p) (upd H p (.tup (cutV xs lo hi)))
theorem sl_tup : SlR X (rSlT X.K) := by
  intro pins s σ H x v vl vu lo hi sl Q I rx hs pl pu h
  obtain ⟨a, xs, rfl, hx, hw, q⟩ := h
  cases rx
  obtain ⟨its, r, ht, hz⟩ := I.tuple hx
  have hlen : its.toArray.size = xs.length := by rw [List.size_toArray]; exact r.length.symm
  refine ⟨"tuple", _, PyProof.Rows.slot_tuple_getitem.lookup, ht.typeIs, ?_⟩
  refine HT.getItem_tuple_cut ht hs pl pu (by rw [hlen]; exact hw) ?_ (by rw [hlen]; exact hz)
  rw [hlen]
  refine ⟨.ref s.heap.objs.size, _, I.laid (t' := s.toks) (o := .tup (cutV xs lo hi)) (fun b ob q => Heap.get?_push_of_some _ q) (Nat.le_refl _) ?_, rfl, q _ (I.hok.fresh (Nat.le_refl _))⟩
  exact ⟨Nat.le_trans (cutV_length xs lo hi) hz, _, (r.drop (HT.sIx xs.length 0 lo)).take (HT.sIx xs.length xs.length hi - HT.sIx xs.length 0 lo), IsTup.new _ _⟩

/-! ### t < u, t + u -/
/-- t + u, t not empty: u empty gives t itself -/
def rCatT (K : PySem.W.Frag) : R2 := fun x y H Q => ∃ a b xs ys, x = .ref a ∧ y = .ref b ∧ SqT K H a xs ∧ SqT K H b ys ∧ xs ≠ [] ∧ xs.length + ys.length ≤ sizeLine ∧
  (ys = [] → Q (.ref a) H) ∧ (ys ≠ [] → ∀ p, H p = none → Q (.ref p) (upd H p (.tup (xs ++ ys))))
theorem Vals.nil_iff {xs : List V} {us : List Value} (r : Vals xs us) : us = [] ↔ xs = [] := by
  cases r with
  | nil => simp
  | cons _ _ => simp
theorem op_catT : OpR X (binaryOp .Add) (rCatT X.K) := by
  intro pins s σ H x y v u Q I rx ry h
  obtain ⟨a, b, xs, ys, rfl, rfl, ha, hb, hx, hz, q1, q2⟩ := h
  cases rx
  cases ry
  obtain ⟨its, r1, p1, _⟩ := I.tuple ha
  obtain ⟨its2, r2, p2, _⟩ := I.tuple hb
  refine HT.cat_tup p1 p2 (fun z => hx (r1.nil_iff.mp z)) (fun z => ⟨.ref a, H, I, rfl, q1 (r2.nil_iff.mp z)⟩) (fun z => ?_) (by rw [← r1.length, ← r2.length]; exact hz)
  refine ⟨.ref s.heap.objs.size, _, I.laid (t' := s.toks) (o := .tup (xs ++ ys)) (fun b ob q => Heap.get?_push_of_some _ q) (Nat.le_refl _) ?_, rfl, q2 (fun w => z (r2.nil_iff.mpr w)) _ (I.hok.fresh (Nat.le_refl _))⟩
  exact ⟨by rw [List.length_append]; exact hz, _, r1.append r2, IsTup.new _ _⟩
end
end L2

namespace L2
open PySem PySem.Spec PyProof.Rows

/-! ### places -/
/-- the place that an index of any sign means -/
def ixN (n : Nat) (i : Int) : Option Nat := if 0 ≤ i then (if i < n then some i.toNat else none) else if -(n : Int) ≤ i then some (i + n).toNat else none
def atI {α : Type} (xs : List α) (i : Int) : Option α := (ixN xs.length i).bind fun j => xs[j]?
theorem ixN_seq {n : Nat} {i : Int} {j : Nat} (h : ixN n i = some j) : seqIndex? i n = some j ∧ j < n ∧ -(n : Int) ≤ i ∧ i < n := by
  unfold ixN at h
  by_cases h0 : 0 ≤ i
  · rw [if_pos h0] at h
    by_cases h1 : i < n
    · rw [if_pos h1] at h
      have e : i.toNat = j := Option.some.inj h
      exact ⟨by rw [seqIndex_of h0 h1, e], by omega, by omega, h1⟩
    · rw [if_neg h1] at h; cases h
  · rw [if_neg h0] at h
    by_cases h1 : -(n : Int) ≤ i
    · rw [if_pos h1] at h
      have e : (i + n).toNat = j := Option.some.inj h
      exact ⟨by rw [seqIndex_neg (by omega) h1, e], by omega, h1, by omega⟩
    · rw [if_neg h1] at h; cases h
theorem atI_get {α : Type} {xs : List α} {i : Int} {v : α} (h : atI xs i = some v) : ∃ j, seqIndex? i xs.length = some j ∧ xs[j]? = some v ∧ j < xs.length ∧ -(xs.length : Int) ≤ i ∧ i < xs.length := by
  unfold atI at h
  cases e : ixN xs.length i with
  | none => rw [e] at h; cases h
  | some j =>
    rw [e] at h
    obtain ⟨h1, h2, h3, h4⟩ := ixN_seq e
    exact ⟨j, h1, h, h2, h3, h4⟩

/-! ### what may be subscripted -/
/-- what stands as an index of a plain subscript -/
def PlainIx (b : Expr) : Prop := ∀ o i, subscripted b false o i = operate [o, i] (getItem o i)
/-- a subscript by values -/
def IxR (X : Cx) (r : R2) : Prop :=
  ∀ (value slice : Expr) (pins : List (Addr × Obj)) (s : Shared) (σ : St) (H : Hp) (x y : V) (v u : Value) (Q : VK), Inv X pins σ H s → RelV x v → RelV y u → r x y H Q →
    subscripted slice false v u = operate [v, u] (getItem v u) → wpAny (model X.prog X.w) X.A (subscriptTail value slice v u) (EP X pins σ Q) X.xe s
/-- a call of a builtin's method by values: the receiver, the arguments -/
def MtR (X : Cx) (id : String) (r : V → List V → Hp → VK → Prop) : Prop :=
  ∀ (pins : List (Addr × Obj)) (s : Shared) (σ : St) (H : Hp) (x : V) (xs : List V) (v : Value) (us : List Value) (Q : VK), Inv X pins σ H s → RelV x v → Vals xs us → r x xs H Q →
    wpAny (model X.prog X.w) X.A (call (.builtin id) (v :: us)) (EP X pins σ Q) X.xe s
section
variable {X : Cx} {a b : Expr} {ta tb : TE} {pos : Pos}
theorem IxR.or {r r' : R2} (h : IxR X r) (h' : IxR X r') : IxR X (fun x y H Q => r x y H Q ∨ r' x y H Q) := by
  intro value slice pins s σ H x y v u Q I rx ry q hs
  rcases q with q | q
  · exact h value slice pins s σ H x y v u Q I rx ry q hs
  · exact h' value slice pins s σ H x y v u Q I rx ry q hs
/-- a[b] -/
theorem pe_ix {r : R2} (hr : IxR X r) (ha : PE X a ta) (hb : PE X b tb) (hs : PlainIx b) : PE X (.Subscript a b pos) (tOp r ta tb) := by
  intro pins s σ H Q I h
  exact Subscript_ (binT ha hb I h fun v u s2 x y H2 I2 rx ry q => hr a b pins s2 σ H2 x y v u Q I2 rx ry q (hs _ _))

def rIxL (K : PySem.W.Frag) : R2 := fun x y H Q => ∃ p xs i v, x = .ref p ∧ y = .int i ∧ SqL K H p xs ∧ atI xs i = some v ∧ Q v H
def rIxT (K : PySem.W.Frag) : R2 := fun x y H Q => ∃ p xs i v, x = .ref p ∧ y = .int i ∧ SqT K H p xs ∧ atI xs i = some v ∧ Q v H
def rIxS : R2 := fun x y H Q => ∃ z i c, x = .str z ∧ y = .int i ∧ z.length ≤ sizeLine ∧ atI z.cps.toList i = some c ∧ Q (.str ⟨#[c]⟩) H
theorem ix_list : IxR X (rIxL X.K) := by
  intro value slice pins s σ H x y v u Q I rx ry h hs
  obtain ⟨p, xs, i, z, rfl, rfl, hq, he, q⟩ := h
  cases rx
  obtain ⟨t, rfl⟩ := ry
  obtain ⟨its, r, pl, hz⟩ := I.list hq
  obtain ⟨j, h1, h2, h3, h4, h5⟩ := atI_get he
  obtain ⟨w, ew, rw'⟩ := r.get h2
  have hl := r.length
  have hn := line63
  have fin : EP X pins σ Q w s := ⟨z, H, I, rw', q⟩
  by_cases h0 : 0 ≤ i
  · have hj : i.toNat = j := by
      rw [seqIndex_of h0 h5] at h1
      exact Option.some.inj h1
    exact item_listR pl.isList h0 (by omega) (by rw [hj]; simpa using ew) fin hs
  · have hj : (i + (its.toArray.size : Int)).toNat = j := by
      rw [seqIndex_neg (by omega) h4] at h1
      rw [List.size_toArray, ← hl]
      exact Option.some.inj h1
    exact subscriptTail_builtinR (x := w) pl.isList.typeIs slot_list_getitem.lookup
      (wpAny_getItem_list_neg (Q := fun r s' => r = w ∧ EP X pins σ Q r s') pl.isList (by omega) (by rw [List.size_toArray] <;> omega) (by omega) (by rw [hj]; simpa using ew) ⟨rfl, fin⟩) hs
theorem ix_tup : IxR X (rIxT X.K) := by
  intro value slice pins s σ H x y v u Q I rx ry h hs
  obtain ⟨p, xs, i, z, rfl, rfl, hq, he, q⟩ := h
  cases rx
  obtain ⟨t, rfl⟩ := ry
  obtain ⟨its, r, pl, hz⟩ := I.tuple hq
  obtain ⟨j, h1, h2, h3, h4, h5⟩ := atI_get he
  obtain ⟨w, ew, rw'⟩ := r.get h2
  have hl := r.length
  have hn := line63
  have fin : EP X pins σ Q w s := ⟨z, H, I, rw', q⟩
  exact subscriptTail_builtinR (x := w) pl.typeIs slot_tuple_getitem.lookup
    (getItem_tuple (j := j) (Q := fun r s' => r = w ∧ EP X pins σ Q r s') pl (by omega) (by omega) (by rw [List.size_toArray, ← hl]; exact h1) (by simpa using ew) ⟨rfl, fin⟩) hs
theorem ix_str : IxR X rIxS := by
  intro value slice pins s σ H x y v u Q I rx ry h hs
  obtain ⟨z, i, c, rfl, rfl, hz, he, q⟩ := h
  obtain ⟨t, rfl⟩ := rx
  obtain ⟨t', rfl⟩ := ry
  obtain ⟨j, h1, h2, h3, h4, h5⟩ := atI_get he
  have hl : z.cps.toList.length = z.length := by simp [Str.length]
  rw [hl] at h1 h4 h5
  have hn := line63
  exact tail_any (typeIs_str s z t) slot_str_getitem.lookup (getItem_str (c := c) (by
    have e1 : decide (i < -(2 ^ 63 : Int)) = false := decide_eq_false (by omega)
    have e2 : decide (i ≥ 2 ^ 63) = false := decide_eq_false (by omega)
    rw [e1, e2, Bool.or_false]) (by rw [h1]; simpa using h2) ⟨.str ⟨#[c]⟩, H, I.tok _, ⟨_, rfl⟩, q⟩) hs
/-- list, tuple or str -/
def rIx (K : PySem.W.Frag) : R2 := fun x y H Q => rIxL K x y H Q ∨ rIxT K x y H Q ∨ rIxS x y H Q
theorem ix_seq : IxR X (rIx X.K) := ix_list.or (ix_tup.or ix_str)

/-! ### xs[i] = v, any sign -/
/-- the list's object behind a store -/
theorem mapSeq_set (its : List Value) (n j : Nat) (u : Value) : Obj.mapSeq (·.setIfInBounds j u) { cls := .type "list", data := .seq its.toArray n } = { cls := .type "list", data := .seq (its.set j u).toArray n } := by
  simp [Obj.mapSeq]
theorem Inv.lst {pins : List (Addr × Obj)} {σ : St} {H : Hp} {s : Shared} {p : Addr} {xs : List V} (I : Inv X pins σ H s) (h : H p = some (.lst xs)) :
    ∃ (its : List Value) (n : Nat), Vals xs its ∧ s.heap.get? p = some { cls := .type "list", data := .seq its.toArray n } ∧ xs.length ≤ sizeLine := by
  obtain ⟨z, its, n, r, e⟩ := I.hok p _ h
  exact ⟨its, n, r, e, z⟩
/-- the list at p is written by an update of its object -/
theorem Inv.lstUpd {pins : List (Addr × Obj)} {σ : St} {H : Hp} {s : Shared} {p : Addr} {xs ys : List V} {its its' : List Value} {n n' : Nat} {f : Obj → Obj} (I : Inv X pins σ H s) (h : H p = some (.lst xs))
    (ho : s.heap.get? p = some { cls := .type "list", data := .seq its.toArray n }) (hf : f { cls := .type "list", data := .seq its.toArray n } = { cls := .type "list", data := .seq its'.toArray n' }) (r : Vals ys its') (hz : ys.length ≤ sizeLine) (t : Nat) :
    Inv X pins σ (upd H p (.lst ys)) { s with heap := s.heap.update p f, toks := t } := by
  have e : (s.heap.update p f).get? p = some { cls := .type "list", data := .seq its'.toArray n' } := by
    rw [Heap.get?_update_self f ho (by rw [hf] <;> rfl), hf]
  refine I.write (x := p) (e := p) (by rw [h]; trivial) (.inl rfl) (fun b u hb q => (Heap.get?_update_other _ _ (Ne.symm hb)).trans q) ⟨_, e⟩ ?_
  exact ⟨hz, its', n', r, e⟩
def rSetL : V → V → V → Hp → (Hp → Prop) → Prop := fun o i v H Q => ∃ p xs k j, o = .ref p ∧ i = .int k ∧ H p = some (.lst xs) ∧ ixN xs.length k = some j ∧ Q (upd H p (.lst (xs.set j v)))
theorem set_list : PSet X rSetL := by
  intro pins s σ H o i v ov iv u Q I ro ri rv h
  obtain ⟨p, xs, k, j, rfl, rfl, hp, hj, q⟩ := h
  cases ro
  obtain ⟨t, rfl⟩ := ri
  obtain ⟨its, n, r, ho, hz⟩ := I.lst hp
  obtain ⟨h1, h2, h3, h4⟩ := ixN_seq hj
  have hl := r.length
  have hn := line63
  have I' : Inv X pins σ (upd H p (.lst (xs.set j v))) { s with heap := s.heap.update p (Obj.mapSeq (·.setIfInBounds j u)) } :=
    I.lstUpd hp ho (mapSeq_set its n j u) (r.set rv j) (by rw [List.length_set]; exact hz) s.toks
  by_cases h0 : 0 ≤ k
  · have hk : k.toNat = j := by
      rw [seqIndex_of h0 h4] at h1
      exact Option.some.inj h1
    exact PySem.W.ki_setAt ho h0 (by omega) (by rw [List.size_toArray, ← hl]; exact h4) (by rw [hk]; exact ⟨_, I', q⟩)
  · have hk : (k + (its.toArray.size : Int)).toNat = j := by
      rw [seqIndex_neg (by omega) h3] at h1
      rw [List.size_toArray, ← hl]
      exact Option.some.inj h1
    exact PySem.W.ki_setBack ho (by omega) (by rw [List.size_toArray, ← hl]; exact h3) (by omega) (by rw [hk]; exact ⟨_, I', q⟩)

/-! ### slices -/
theorem slice_bounds (lo hi : Option Int) (n : Nat) : (sliceBounds lo hi none n).1 = ((HT.sIx n 0 lo : Nat) : Int) ∧ (sliceBounds lo hi none n).2.1 = ((HT.sIx n n hi : Nat) : Int) ∧ (sliceBounds lo hi none n).2.2 = 1 := by
  refine ⟨?_, ?_, rfl⟩
  · cases lo with
    | none => simp [sliceBounds, HT.sIx]
    | some i =>
      simp only [sliceBounds, HT.sIx, Option.getD_none, show (1 : Int) > 0 by decide, if_true]
      by_cases h : i < 0
      · simp only [h, if_true] <;> omega
      · simp only [h, if_false] <;> omega
  · cases hi with
    | none => simp [sliceBounds, HT.sIx]
    | some i =>
      simp only [sliceBounds, HT.sIx, Option.getD_none, show (1 : Int) > 0 by decide, if_true]
      by_cases h : i < 0
      · simp only [h, if_true] <;> omega
      · simp only [h, if_false] <;> omega
theorem slicePick_cut (its : List Value) (lo hi : Option Int) : slicePick its.toArray lo hi none = ((its.drop (HT.sIx its.length 0 lo)).take (HT.sIx its.length its.length hi - HT.sIx its.length 0 lo)).toArray := by
  obtain ⟨h1, h2, h3⟩ := slice_bounds lo hi its.toArray.size
  unfold slicePick
  rw [h1, h2, h3]
  simp only [sliceRange_one, pick_run, List.size_toArray] <;> rfl
/-- xs[lo:hi] of a list: a new list -/
def rSlL (K : PySem.W.Frag) : V → Option Int → Option Int → Hp → VK → Prop := fun x lo hi H Q => ∃ a xs, x = .ref a ∧ SqL K H a xs ∧ ∀ p, H p = none → Q (.ref p) (upd H p (.lst (cutV xs lo hi)))
theorem sl_list : SlR X (rSlL X.K) := by
  intro pins s σ H x v vl vu lo hi sl Q I rx hs pl pu h
  obtain ⟨a, xs, rfl, hx, q⟩ := h
  cases rx
  obtain ⟨its, r, ht, hz⟩ := I.list hx
  have hlen := r.length
  refine ⟨"list", _, slot_list_getitem.lookup, ht.isList.typeIs, ?_⟩
  refine wpAny_getItem_list_slice ht.isList hs pl pu .none (by simp) ?_ (by rw [List.size_toArray] <;> omega)
  rw [slicePick_cut, ← hlen]
  refine ⟨.ref s.heap.objs.size, _, I.laid (t' := s.toks) (o := .lst (cutV xs lo hi)) (fun b ob q => Heap.get?_push_of_some _ q) (Nat.le_refl _) ?_, rfl, q _ (I.hok.fresh (Nat.le_refl _))⟩
  exact ⟨Nat.le_trans (cutV_length xs lo hi) hz, _, 0, (r.drop (HT.sIx xs.length 0 lo)).take (HT.sIx xs.length xs.length hi - HT.sIx xs.length 0 lo), Heap.get?_push_size _ rfl⟩

/-! ### in, not in: flat items -/
def flatV : V → Bool
  | .non => true
  | .bl _ => true
  | .int _ => true
  | .str _ => true
  | _ => false
/-- == of flat values -/
def eqV : V → V → Bool
  | .non, .non => true
  | .bl a, .bl b => a == b
  | .bl a, .int b => (if a then 1 else 0) == b
  | .int a, .bl b => a == (if b then 1 else 0)
  | .int a, .int b => a == b
  | .str a, .str b => a == b
  | _, _ => false
theorem eqAt_V {A : Around} {s : Shared} {y x : V} {u v : Value} (ry : RelV y u) (rx : RelV x v) (fy : flatV y = true) (fx : flatV x = true) : SeqAt.EqAt A s u v (eqV y x) := by
  cases y with
  | non =>
    cases ry
    cases x with
    | non => cases rx; exact SeqAt.EqAt.same _
    | bl b => cases rx; exact SeqAt.EqAt.none_bool b
    | int b => obtain ⟨t, rfl⟩ := rx; exact SeqAt.EqAt.none_int b t
    | str b => obtain ⟨t, rfl⟩ := rx; exact SeqAt.EqAt.none_str b t
    | _ => exact absurd (show false = true from fx) Bool.false_ne_true
  | bl a =>
    cases ry
    cases x with
    | non => cases rx; exact SeqAt.EqAt.bool_none a
    | bl b => cases rx; exact SeqAt.EqAt.bool_bool a b
    | int b => obtain ⟨t, rfl⟩ := rx; exact SeqAt.EqAt.bool_int a b t
    | str b => obtain ⟨t, rfl⟩ := rx; exact SeqAt.EqAt.bool_str a b t
    | _ => exact absurd (show false = true from fx) Bool.false_ne_true
  | int a =>
    obtain ⟨t', rfl⟩ := ry
    cases x with
    | non => cases rx; exact SeqAt.EqAt.int_none a t'
    | bl b => cases rx; exact SeqAt.EqAt.int_bool a t' b
    | int b => obtain ⟨t, rfl⟩ := rx; exact SeqAt.EqAt.int_int a t' b t
    | str b => obtain ⟨t, rfl⟩ := rx; exact SeqAt.EqAt.int_str a t' b t
    | _ => exact absurd (show false = true from fx) Bool.false_ne_true
  | str a =>
    obtain ⟨t', rfl⟩ := ry
    cases x with
    | non => cases rx; exact SeqAt.EqAt.str_none a t'
    | bl b => cases rx; exact SeqAt.EqAt.str_bool a t' b
    | int b => obtain ⟨t, rfl⟩ := rx; exact SeqAt.EqAt.str_int a t' b t
    | str b => obtain ⟨t, rfl⟩ := rx; exact SeqAt.EqAt.str_str a t' b t
    | _ => exact absurd (show false = true from fx) Bool.false_ne_true
  | _ => exact absurd (show false = true from fy) Bool.false_ne_true
/-- the items' answers, read off the values (a value's own answer does not lean on its token) -/
def eqU (x : V) (u : Value) : Bool := match u with
  | .none => eqV .non x
  | .bool b => eqV (.bl b) x
  | .int i _ => eqV (.int i) x
  | .str z _ => eqV (.str z) x
  | _ => false
theorem eqU_of {x y : V} {u : Value} (r : RelV y u) (f : flatV y = true) : eqU x u = eqV y x := by
  cases y with
  | non => cases r; rfl
  | bl b => cases r; rfl
  | int i => obtain ⟨t, rfl⟩ := r; rfl
  | str z => obtain ⟨t, rfl⟩ := r; rfl
  | _ => exact absurd (show false = true from f) Bool.false_ne_true
theorem any_eqU {x : V} : ∀ {xs : List V} {us : List Value}, Vals xs us → xs.all flatV = true → us.any (eqU x) = xs.any fun y => eqV y x
  | _, _, .nil, _ => rfl
  | y :: xs, u :: us, .cons r t, f => by
    rw [List.all_cons, Bool.and_eq_true] at f
    rw [List.any_cons, List.any_cons, eqU_of r f.1, any_eqU t f.2]
theorem mem_eqAt {A : Around} {s : Shared} {x : V} {v : Value} (rx : RelV x v) (fx : flatV x = true) : ∀ {xs : List V} {us : List Value}, Vals xs us → xs.all flatV = true → ∀ u ∈ us, SeqAt.EqAt A s u v (eqU x u)
  | _, _, .nil, _ => fun u hu => by cases hu
  | y :: xs, u :: us, .cons r t, f => fun u' hu => by
    rw [List.all_cons, Bool.and_eq_true] at f
    rcases List.mem_cons.mp hu with rfl | hu
    · rw [eqU_of r f.1]; exact eqAt_V r rx f.1 fx
    · exact mem_eqAt rx fx t f.2 u' hu
def inV (x : V) (xs : List V) : Bool := xs.any fun y => eqV y x
/-- x in a list or tuple of flat items -/
def rIn (K : PySem.W.Frag) (neg : Bool) : R2 := fun x y H Q => ∃ p xs, y = .ref p ∧ (SqL K H p xs ∨ SqT K H p xs) ∧ flatV x = true ∧ xs.all flatV = true ∧ Q (.bl (if neg then !inV x xs else inV x xs)) H
theorem op_in_seq : OpR X (compareOp .In) (rIn X.K false) := by
  intro pins s σ H x y v u Q I rx ry h
  obtain ⟨p, xs, rfl, hq, fx, fs, q⟩ := h
  cases ry
  rcases hq with hq | hq
  · obtain ⟨its, r, pl, hz⟩ := I.list hq
    refine SeqAt.in_listAt (eqU x) pl.isList (fun w hw => mem_eqAt rx fx r fs w (by simpa using hw)) ⟨.bl _, H, I, rfl, ?_⟩
    rw [show its.toArray.any (eqU x) = its.any (eqU x) by simp, any_eqU r fs]
    exact q
  · obtain ⟨its, r, pl, hz⟩ := I.tuple hq
    refine SeqAt.in_tupleAt (eqU x) pl (fun w hw => mem_eqAt rx fx r fs w (by simpa using hw)) ⟨.bl _, H, I, rfl, ?_⟩
    rw [show its.toArray.any (eqU x) = its.any (eqU x) by simp, any_eqU r fs]
    exact q
theorem op_notIn_seq : OpR X (compareOp .NotIn) (rIn X.K true) := by
  intro pins s σ H x y v u Q I rx ry h
  obtain ⟨p, xs, rfl, hq, fx, fs, q⟩ := h
  cases ry
  rcases hq with hq | hq
  · obtain ⟨its, r, pl, hz⟩ := I.list hq
    refine SeqAt.notIn_listAt (eqU x) pl.isList (fun w hw => mem_eqAt rx fx r fs w (by simpa using hw)) ⟨.bl _, H, I, rfl, ?_⟩
    rw [show its.toArray.any (eqU x) = its.any (eqU x) by simp, any_eqU r fs]
    exact q
  · obtain ⟨its, r, pl, hz⟩ := I.tuple hq
    refine SeqAt.notIn_tupleAt (eqU x) pl (fun w hw => mem_eqAt rx fx r fs w (by simpa using hw)) ⟨.bl _, H, I, rfl, ?_⟩
    rw [show its.toArray.any (eqU x) = its.any (eqU x) by simp, any_eqU r fs]
    exact q

/-! ### len, list(x), tuple(x) of any list or tuple that is read -/
theorem call_len_seq : CallR X (.builtin "len") (fun xs H Q => ∃ p ys, xs = [.ref p] ∧ (SqL X.K H p ys ∨ SqT X.K H p ys) ∧ Q (.int ys.length) H) := by
  intro pins s σ H xs us Q I r h
  obtain ⟨p, ys, rfl, hq, q⟩ := h
  obtain ⟨u, rfl, rx⟩ := vals1 r
  cases rx
  have hn := line63
  rcases hq with hq | hq
  · obtain ⟨its, r', pl, hz⟩ := I.list hq
    have hlen := r'.length
    exact Calls.call_len_list pl.isList (by simp only [List.size_toArray] <;> omega) ⟨.int ys.length, H, I.tok _, ⟨s.toks + 1, by rw [List.size_toArray, hlen]⟩, q⟩
  · obtain ⟨its, r', pl, hz⟩ := I.tuple hq
    have hlen := r'.length
    exact len_tuple pl (by simp only [List.size_toArray] <;> omega) ⟨.int ys.length, H, I.tok _, ⟨s.toks + 1, by rw [List.size_toArray, hlen]⟩, q⟩
theorem call_list_of : CallR X (.type "list") (fun xs H Q => ∃ p ys, xs = [.ref p] ∧ (SqL X.K H p ys ∨ SqT X.K H p ys) ∧ ∀ l, H l = none → Q (.ref l) (upd H l (.lst ys))) := by
  intro pins s σ H xs us Q I r h
  obtain ⟨p, ys, rfl, hq, q⟩ := h
  obtain ⟨u, rfl, rx⟩ := vals1 r
  cases rx
  have fin : ∀ (its : List Value), Vals ys its → ys.length ≤ sizeLine → ∀ (h' : Heap) (c' : Nat), (∀ b o', s.heap.get? b = some o' → h'.get? b = some o') →
      h'.get? s.heap.objs.size = some { cls := .type "list", dict := none, data := .seq its.toArray c', slots := #[] } → EP X pins σ Q (.ref s.heap.objs.size) { s with heap := h' } := fun its r' hz h' c' kp e =>
    ⟨.ref s.heap.objs.size, _, I.laid (t' := s.toks) kp (Nat.le_refl _) (show ObjOk X.prog X.w _ h' _ (.lst ys) from ⟨hz, its, c', r', e⟩), rfl, q _ (I.hok.fresh (Nat.le_refl _))⟩
  rcases hq with hq | hq
  · obtain ⟨its, r', pl, hz⟩ := I.list hq
    have hlen := r'.length
    obtain ⟨o, ho, hc, n, hd⟩ := pl.isList
    exact call_list_seq p (.inl rfl) ho hc hd (fun h' c' kp e => fin its r' hz h' c' kp e) (by simp only [List.size_toArray] <;> omega)
  · obtain ⟨its, r', pl, hz⟩ := I.tuple hq
    have hlen := r'.length
    obtain ⟨o, ho, hc, n, hd⟩ := pl
    exact call_list_seq p (.inr rfl) ho hc hd (fun h' c' kp e => fin its r' hz h' c' kp e) (by simp only [List.size_toArray] <;> omega)
theorem call_tuple_of : CallR X (.type "tuple") (fun xs H Q => ∃ p ys, xs = [.ref p] ∧ ((SqL X.K H p ys ∧ ∀ l, H l = none → Q (.ref l) (upd H l (.tup ys))) ∨ (SqT X.K H p ys ∧ Q (.ref p) H))) := by
  intro pins s σ H xs us Q I r h
  obtain ⟨p, ys, rfl, h⟩ := h
  obtain ⟨u, rfl, rx⟩ := vals1 r
  cases rx
  rcases h with ⟨hq, q⟩ | ⟨hq, q⟩
  · obtain ⟨its, r', pl, hz⟩ := I.list hq
    have hlen := r'.length
    refine call_tuple_list pl.isList (fun h' kp => ?_) (by simp only [List.size_toArray] <;> omega)
    have I1 : Inv X pins σ H { s with heap := h' } := I.kept (t' := s.toks) kp
    have I2 : Inv X pins σ (upd H h'.objs.size (.tup ys)) { s with heap := h'.push { cls := .type "tuple", data := .seq its.toArray } } :=
      I1.laid (t' := s.toks) (fun b o e => Heap.get?_push_of_some _ e) (Nat.le_refl _) (show ObjOk X.prog X.w _ _ _ (.tup ys) from ⟨hz, its, r', IsTup.new _ _⟩)
    exact ⟨.ref h'.objs.size, _, I2, rfl, q _ (I1.hok.fresh (Nat.le_refl _))⟩
  · obtain ⟨its, r', pl, hz⟩ := I.tuple hq
    exact call_tuple_same pl ⟨.ref p, H, I, rfl, q⟩

/-! ### the call of a builtin's method: o.m(..) -/
/-- the value is of that builtin type -/
def tyV (K : PySem.W.Frag) (T : String) (x : V) (H : Hp) : Prop := match x with
  | .str _ => T = "str"
  | .int _ => T = "int"
  | .ref p => (T = "list" ∧ ∃ xs, SqL K H p xs) ∨ (T = "tuple" ∧ ∃ o, K.lookup p = some o ∧ o.cls = .type "tuple" ∧ o.dict = none) ∨
      (T = "dict" ∧ ((∃ kvs, H p = some (.dK kvs)) ∨ ∃ kvs, H p = some (.dT kvs))) ∨ (T = "set" ∧ ∃ S n, H p = some (.set S n))
  | _ => False
theorem tyV_is {pins : List (Addr × Obj)} {σ : St} {H : Hp} {s : Shared} {T : String} {x : V} {v : Value} (I : Inv X pins σ H s) (r : RelV x v) (ty : tyV X.K T x H) :
    s.TypeIs v T ∧ ∀ a, v = .ref a → ∃ ob, s.heap.get? a = some ob ∧ ob.dict = none := by
  cases x with
  | str z =>
    obtain ⟨t, rfl⟩ := r
    cases (show T = "str" from ty)
    exact ⟨typeIs_str s z t, fun _ e => nomatch e⟩
  | int i =>
    obtain ⟨t, rfl⟩ := r
    cases (show T = "int" from ty)
    exact ⟨typeIs_int s i t, fun _ e => nomatch e⟩
  | ref p =>
    cases r
    rcases ty with ⟨rfl, xs, hq⟩ | ⟨rfl, o, hk, hc, hd⟩ | ⟨rfl, hk⟩ | ⟨rfl, S, n, hk⟩
    · obtain ⟨its, _, pl, _⟩ := I.list hq
      refine ⟨pl.isList.typeIs, fun a e => ?_⟩
      cases e
      obtain ⟨o, n, e, c, hd, _⟩ := pl
      exact ⟨o, e, hd⟩
    · refine ⟨⟨o, I.kIn p o hk, hc⟩, fun a e => ?_⟩
      cases e
      exact ⟨o, I.kIn _ o hk, hd⟩
    · have z : ∃ o, s.heap.get? p = some o ∧ o.ExactDict := by
        rcases hk with ⟨kvs, hk⟩ | ⟨kvs, hk⟩
        · obtain ⟨_, _, _, _, o, _, _, e, ex, _⟩ := I.hok p _ hk
          exact ⟨o, e, ex⟩
        · obtain ⟨_, _, _, _, o, _, _, e, ex, _⟩ := I.hok p _ hk
          exact ⟨o, e, ex⟩
      obtain ⟨o, e, ex⟩ := z
      refine ⟨⟨o, e, ex.1⟩, fun a e2 => ?_⟩
      cases e2
      exact ⟨o, e, ex.2.1⟩
    · obtain ⟨o, _, _, _, e, ex, _⟩ := I.hok p _ hk
      refine ⟨⟨o, e, ex.1⟩, fun a e2 => ?_⟩
      cases e2
      exact ⟨o, e, ex.2.1⟩
  | _ => exact False.elim ty
def tBM (K : PySem.W.Frag) (T : String) (r : V → List V → Hp → VK → Prop) (to : TE) (t : TA) : TE := fun σ H Q => to σ H fun x H1 => tyV K T x H1 ∧ t σ H1 fun xs H2 => r x xs H2 Q
variable {o e : Expr} {es : List Expr} {to : TE} {t : TA} {name : Str} {apos cpos : Pos} {T id : String} {r : V → List V → Hp → VK → Prop}
theorem pe_bm (pa : PlainAttrs T) (slot : Slot T name id) (hty : typeOf (.builtin id) = pure (.type "method_descriptor")) (hm : MtR X id r) (ho : PE X o to) (ha : PA X (e :: es) t)
    (hbase : attributeBase o name X.env (eval o X.env) = eval o X.env := by rfl)
    (hfew : ((backTo cpos (starEach (e :: es) X.env)).all (fun x => !x.1) && (backToKw cpos (keywordEach [] X.env)).all (fun x => x.1.isSome)
      && decide ((e :: es).length + ([] : List Keyword).length + (if ([] : List Keyword).isEmpty then 0 else 1) < 30)) = true := by rfl)
    (hline : (apos.endLine == cpos.line) = true := by rfl) (hs : starEach (e :: es) X.env = (false, eval e X.env) :: starEach es X.env := by rfl) (hplain : (backTo cpos (starEach es X.env)).any (·.1) = false := by rfl) :
    PE X (.Call (.Attribute o name apos) (e :: es) [] cpos) (tBM X.K T r to t) := by
  intro pins s σ H Q I h
  refine wpAny_Call_method_late hbase hfew hline rfl (thn (ho pins s σ H _ I h) fun v s1 ⟨x, H1, I1, r1, ty, q1⟩ => ?_)
  obtain ⟨h1, h2⟩ := tyV_is I1 r1 ty
  refine ⟨T, id, pa, slot, hty, h1, h2, ?_⟩
  have hA := ha cpos pins s1 σ H1 _ I1 q1
  rw [hs] at hA ⊢
  refine Calls.callWith_builtin (by show (false || (backTo cpos (starEach es X.env)).any (·.1)) = false; rw [hplain] <;> rfl) (Calls.evalArgs_plain ?_)
  exact thn hA fun us s2 ⟨vs, H2, I2, r2, q2⟩ => hm pins s2 σ H2 x vs v us Q I2 r1 r2 q2
/- xs.append(e), list.index on a module's tuple .. are MtR facts of 06m -/
end
end L2

namespace L2
open PySem PySem.Spec PyProof.Rows

def MtM (X : Cx) (id : String) (r : V → List V → Hp → VK → Prop) : Prop :=
  ∀ (pins : List (Addr × Obj)) (s : Shared) (σ : St) (H : Hp) (x : V) (xs : List V) (v : Value) (us : List Value) (Q : VK), Inv X pins σ H s → RelV x v → Vals xs us → r x xs H Q →
    wpAny (model X.prog X.w) X.A (call (.builtin id) (v :: us)) (EP X pins σ Q) X.xe s

/-! ### lists of values -/
theorem Vals.one : ∀ {x : V} {us : List Value}, Vals [x] us → ∃ u, us = [u] ∧ RelV x u
  | _, _, .cons r .nil => ⟨_, rfl, r⟩
theorem Vals.reverse {xs : List V} {us : List Value} (h : Vals xs us) : Vals xs.reverse us.reverse := by
  induction h with
  | nil => exact .nil
  | cons r t ih => rw [List.reverse_cons, List.reverse_cons]; exact Vals.append ih (.cons r .nil)
theorem Vals.rep {xs : List V} {us : List Value} (h : Vals xs us) : ∀ k : Nat, Vals (List.replicate k xs).flatten (List.replicate k us).flatten
  | 0 => .nil
  | k + 1 => by
    rw [List.replicate_succ, List.replicate_succ, List.flatten_cons, List.flatten_cons]
    exact Vals.append h (Vals.rep h k)
theorem foldl_rep (its : List Value) : ∀ (k : Nat) (acc : List Value),
    List.foldl (fun x1 x2 => x1 ++ x2) acc.toArray (List.replicate k its.toArray) = (acc ++ (List.replicate k its).flatten).toArray
  | 0, acc => by simp
  | k + 1, acc => by
    have e : acc.toArray ++ its.toArray = (acc ++ its).toArray := by simp
    have e2 : (acc ++ its) ++ (List.replicate k its).flatten = acc ++ (List.replicate (k + 1) its).flatten := by
      rw [List.replicate_succ, List.flatten_cons, List.append_assoc]
    rw [← e2, ← foldl_rep its k (acc ++ its), ← e, List.replicate_succ, List.foldl_cons]

section
variable {X : Cx} {pins : List (Addr × Obj)} {σ : St} {H : Hp} {s : Shared} {l b : Addr} {xs ys zs : List V}

/-! ### the two steps: a tracked list is rewritten, a new list is laid -/
theorem Inv.lset {its its' : List Value} {n : Nat} {f : Array Value → Array Value} {t' : Nat} (I : Inv X pins σ H s) (hH : H l = some (.lst xs))
    (e : s.heap.get? l = some { cls := .type "list", data := .seq its.toArray n }) (hf : f its.toArray = its'.toArray) (hv : Vals ys its') (hz : ys.length ≤ sizeLine) :
    Inv X pins σ (upd H l (.lst ys)) { s with heap := s.heap.update l (Obj.mapSeq f), toks := t' } := by
  have q := PySem.IsL.update e f
  rw [hf] at q
  refine I.write (x := l) (e := l) (by rw [hH]; exact trivial) (.inl rfl) (fun b' u hb hu => (Heap.get?_update_other s.heap (Obj.mapSeq f) (Ne.symm hb)).trans hu) ⟨_, q⟩ ?_
  exact ⟨hz, its', _, hv, q⟩
theorem Inv.lnew {its : List Value} {t' : Nat} (I : Inv X pins σ H s) (hv : Vals ys its) (hz : ys.length ≤ sizeLine) :
    Inv X pins σ (upd H s.heap.objs.size (.lst ys)) { s with heap := s.heap.push { cls := .type "list", data := .seq its.toArray }, toks := t' } :=
  I.laid (fun _ _ q => Heap.get?_push_of_some _ q) (Nat.le_refl _) ⟨hz, its, 0, hv, Heap.get?_push_size _ rfl⟩
theorem Inv.fresh (I : Inv X pins σ H s) : H s.heap.objs.size = none := I.hok.fresh (Nat.le_refl _)
theorem Inv.lstM (I : Inv X pins σ H s) (hH : H l = some (.lst xs)) : xs.length ≤ sizeLine ∧ ∃ (its : List Value) (n : Nat), Vals xs its ∧ xs.length = its.length ∧ s.heap.get? l = some { cls := .type "list", data := .seq its.toArray n } := by
  obtain ⟨z, its, n, r, e⟩ := I.hok l _ hH
  exact ⟨z, its, n, r, r.length, e⟩

theorem notLongL {n : Nat} (h : n ≤ sizeLine) : Builtin.List.listTooLong n = false := by
  unfold Builtin.List.listTooLong
  exact decide_eq_false (by omega)
end

section
variable {X : Cx}

/-! ### methods -/
def rAppend : V → List V → Hp → VK → Prop := fun x vs H Q => ∃ l xs y, x = .ref l ∧ vs = [y] ∧ H l = some (.lst xs) ∧ xs.length < sizeLine ∧ Q .non (upd H l (.lst (xs ++ [y])))
theorem mt_append : MtM X "list.append" rAppend := by
  intro pins s σ H x vs v us Q I rx rv h
  obtain ⟨l, xs, y, rfl, rfl, hH, hz, q⟩ := h
  cases rx
  obtain ⟨u, rfl, ru⟩ := rv.one
  obtain ⟨z, its, n, r, hl, e⟩ := I.lstM hH
  refine call_meets F.slot_list_append ⟨_, e, rfl⟩ F.entry_list_append (F.args_list_append_2 _ _) (PySem.list_append l its.toArray n u (by rw [List.size_toArray]; omega)) ⟨e, ?_⟩
  refine ⟨.non, _, I.lset (its' := its ++ [u]) hH e (by simp) (r.append (.cons ru .nil)) ?_, rfl, q⟩
  rw [List.length_append, List.length_singleton]
  omega






/-! ### list + list, list += list, list * int -/
def rCat : R2 := fun x y H Q => ∃ l b xs zs, x = .ref l ∧ y = .ref b ∧ H l = some (.lst xs) ∧ H b = some (.lst zs) ∧ xs.length + zs.length ≤ sizeLine ∧ ∀ p, H p = none → Q (.ref p) (upd H p (.lst (xs ++ zs)))
theorem op_cat : OpR X (binaryOp .Add) rCat := by
  intro pins s σ H x y v u Q I rx ry h
  obtain ⟨l, b, xs, zs, rfl, rfl, hH, hB, hz, q⟩ := h
  cases rx
  cases ry
  obtain ⟨z, its, n, r, hl, e⟩ := I.lstM hH
  obtain ⟨z2, its2, n2, r2, hl2, e2⟩ := I.lstM hB
  refine PySem.P.add_list e e2 ?_ (by rw [List.size_toArray, List.size_toArray]; omega)
  have ea : its.toArray ++ its2.toArray = (its ++ its2).toArray := by simp
  rw [ea]
  exact ⟨.ref _, _, I.lnew (t' := s.toks) (r.append r2) (by rw [List.length_append]; omega), rfl, q _ I.fresh⟩
/-- a list times an int (a negative one is nothing) -/
def rRep : R2 := fun x y H Q => ∃ l k xs, x = .ref l ∧ y = .int k ∧ H l = some (.lst xs) ∧ -(2 ^ 63) ≤ k ∧ k < 2 ^ 63 ∧ xs.length * k.toNat ≤ sizeLine ∧
  ∀ p, H p = none → Q (.ref p) (upd H p (.lst (List.replicate k.toNat xs).flatten))
theorem len_rep {α : Type} (xs : List α) (k : Nat) : (List.replicate k xs).flatten.length = k * xs.length := by
  induction k with
  | zero => simp
  | succ k ih => rw [List.replicate_succ, List.flatten_cons, List.length_append, ih, Nat.succ_mul, Nat.add_comm]
theorem op_rep : OpR X (binaryOp .Mult) rRep := by
  intro pins s σ H x y v u Q I rx ry h
  obtain ⟨l, k, xs, rfl, rfl, hH, h1, h2, hz, q⟩ := h
  cases rx
  obtain ⟨t, rfl⟩ := ry
  obtain ⟨z, its, n, r, hl, e⟩ := I.lstM hH
  have hlen : its.toArray.size * k.toNat ≤ sizeLine := by rw [List.size_toArray, ← hl]; exact hz
  have hcap : ¬ its.toArray.size * k.toNat > (2 ^ 63 - 1) / 8 := by
    have : (sizeLine : Nat) ≤ (2 ^ 63 - 1) / 8 := by decide
    omega
  have hfit : ¬ (!Builtin.List.listFitsIndex k) = true := by
    rw [fitsIndex_both h1 h2]
    exact Bool.false_ne_true
  have hlong : ¬ Builtin.List.listTooLong (its.toArray.size * k.toNat) = true := by
    rw [notLongL hlen]
    exact Bool.false_ne_true
  have hnew : List.foldl (fun x1 x2 => x1 ++ x2) #[] (List.replicate (if its.toArray.isEmpty = true then 0 else k.toNat) its.toArray) = (List.replicate k.toNat its).flatten.toArray := by
    have f0 : ∀ m : Nat, List.foldl (fun x1 x2 => x1 ++ x2) #[] (List.replicate m its.toArray) = (List.replicate m its).flatten.toArray := fun m => by
      have := foldl_rep its m []
      rw [List.nil_append] at this
      exact this
    rw [f0]
    cases its with
    | nil => simp
    | cons a r' => rw [if_neg (by simp)]
  refine wpAny_binaryOp_repeat_ref (T := "list") (U := "int") (by decide) ⟨_, e, rfl⟩ (fun s' => typeIs_int s' k t) noFill_list_mul F.fills_int_mul F.slot_int_rmul repeat_list F.slot_int_index.lookup
    (call_meets F.slot_int_rmul (typeIs_int s k t) F.entry_int_rmul (F.args_int_rmul_2 _ _) (int___rmul___int_list k t l its.toArray n)
      ⟨e, rfl, ⟨_, e, rfl⟩, call_meets F.slot_list_mul ⟨_, e, rfl⟩ F.entry_list_mul (F.args_list_mul_2 _ _) (AutoListH.list___mul___list_int_3 l its.toArray n k t hfit hcap hlong) ⟨e, ?_⟩⟩)
  rw [hnew]
  exact ⟨.ref _, _, I.lnew (t' := s.toks) (r.rep k.toNat) (by rw [len_rep, Nat.mul_comm]; exact hz), rfl, q _ I.fresh⟩

/-! ### del xs[i] -/
end

/-! ### xs[a:b] = ys -/
section
variable {prog : Program} {w : World} {A : Around} {E : Value → Shared → Prop} {s : Shared}
set_option maxRecDepth 100000 in
end

section
variable {X : Cx}
end
end L2

namespace L2
open PySem PySem.Spec PyProof.Rows

theorem Vals.ints : ∀ {ns : List Int} {us : List Value}, Vals (ns.map V.int) us → IntsAre us ns
  | [], us, h => by
    rw [List.map_nil] at h
    cases h
    exact IntsAre.nil
  | n :: ns, us, h => by
    rw [List.map_cons] at h
    cases h with
    | cons r t =>
      obtain ⟨k, rfl⟩ := r
      exact IntsAre.cons n k (Vals.ints t)
theorem Vals.bls : ∀ {bs : List Bool} {us : List Value}, Vals (bs.map V.bl) us → us = bs.map Value.bool
  | [], us, h => by
    rw [List.map_nil] at h
    cases h
    rfl
  | b :: bs, us, h => by
    rw [List.map_cons] at h
    cases h with
    | cons r t =>
      cases r
      rw [Vals.bls t, List.map_cons]
theorem Vals.ref1 {a : Addr} {us : List Value} (r : Vals [V.ref a] us) : us = [Value.ref a] := by
  cases r with
  | cons r t =>
    cases t
    cases r
    rfl

/-! ### the library's walks over a list of ints, kept objects alone -/
section
variable {prog : Program} {w : World} {A : Around} {E : Value → Shared → Prop} {s : Shared} {l : Addr} {its : List Value} {ns : List Int} {Q : Value → Shared → Prop}
theorem sum_raw (hh : A.handled = none) (hl : s.heap.IsList l its.toArray) (hi : IntsAre its ns)
    (h : ∀ h' tk t', (∀ b o, s.heap.get? b = some o → h'.get? b = some o) → Q (.int ns.sum t') { s with heap := h', toks := tk }) : wpAny (model prog w) A (call (.builtin "sum") [.ref l]) Q E s := by
  obtain ⟨xs, e⟩ := hi.allInts.items
  have hn : numsOf (intItems xs).toList = ns := by rw [← e]; exact hi.numsOf
  rw [nums_intItems] at hn
  rw [e] at hl
  refine PySem.sum_intListG hh hl fun h' tk t' hk => ?_
  have := h h' tk t' hk
  rw [preSum_eq, List.take_of_length_le (by simp), hn]; exact this
end

/-! ### the calls, by values (CallR of 03t; MtR of 06l) -/
section
variable {X : Cx}
/-- sum(xs) of a list of ints -/
def rSum (K : PySem.W.Frag) : List V → Hp → VK → Prop := fun vs H Q => ∃ (a : Addr) (ns : List Int), vs = [V.ref a] ∧ SqL K H a (ns.map V.int) ∧ Q (.int ns.sum) H
theorem cr_sum (hc : X.calm = true) : CallR X (.builtin "sum") (rSum X.K) := by
  intro pins s σ H vs us Q I r h
  obtain ⟨a, ns, rfl, hs, q⟩ := h
  obtain ⟨its, rv, hl, _⟩ := I.list hs
  rw [Vals.ref1 r]
  exact sum_raw (I.ok.hd hc) hl.isList rv.ints fun h' tk t' hk => ⟨.int _, H, I.kept hk, ⟨_, rfl⟩, q⟩

/-! sorted, sort (fewer than 64 items: the library's own bound) -/
end

/-! ### list.index, flat items -/
section
variable {X : Cx}
end

/-! ### type(x) of an own instance; is, is not of a module's class -/
section
variable {X : Cx}
end

/-! ### any(xs), all(xs) of a list of bools -/
theorem iter_any {prog : Program} {w : World} {A : Around} {E : Value → Shared → Prop} {s : Shared} {l : Addr} {items : Array Value} {Q : Value → Shared → Prop} (hl : s.heap.IsList l items)
    (h : ∀ s₂ : Shared, s₂ = { s with heap := s.heap.push { cls := .type "list_iterator", data := .fields #[.ref l, .int 0 0] } } →
      (s₂.heap.IsListIter s.heap.objs.size l 0 ∧ s₂.heap.IsList l items) → l ≠ s.heap.objs.size → Q (.ref s.heap.objs.size) s₂) : wpAny (model prog w) A (pyIter (.ref l)) Q E s := by
  have hlt : l < s.heap.objs.size := by obtain ⟨_, e, _⟩ := hl; exact Heap.lt_size e
  exact wpAny_pyIter_list hl (h _ rfl ⟨⟨_, Heap.get?_push_size _ rfl, rfl, rfl⟩, hl.push _⟩ (Nat.ne_of_lt hlt))
theorem truth_bools {prog : Program} {w : World} {A : Around} {bs : List Bool} {its : List Value} (e : its = bs.map Value.bool) :
    TruthOf prog w A (fun i v => its.toArray[i]? = some v) (fun i => bs.getD i false) := fun i v s Q E hv hq => by
  have hv' : its[i]? = some v := by simpa using hv
  rw [e, List.getElem?_map] at hv'
  obtain ⟨b, hb, rfl⟩ := Option.map_eq_some_iff.mp hv'
  have hg : bs.getD i false = b := by rw [List.getD_eq_getElem?_getD, hb] <;> rfl
  have hq' : Q (bs.getD i false) s := hq
  rw [hg] at hq'
  exact wpAny_truthy_bool hq'
theorem any_range : ∀ bs : List Bool, (List.range bs.length).any (fun i => bs.getD i false) = bs.any id
  | [] => rfl
  | b :: bs => by
    rw [List.length_cons, List.range_succ_eq_map, List.any_cons, List.any_map, List.any_cons, ← any_range bs]
    all_goals rfl
theorem all_range : ∀ bs : List Bool, (List.range bs.length).all (fun i => bs.getD i false) = bs.all id
  | [] => rfl
  | b :: bs => by
    rw [List.length_cons, List.range_succ_eq_map, List.all_cons, List.all_map, List.all_cons, ← all_range bs]
    all_goals rfl
section
variable {X : Cx}
def rAny (K : PySem.W.Frag) : List V → Hp → VK → Prop := fun vs H Q => ∃ (a : Addr) (bs : List Bool), vs = [V.ref a] ∧ SqL K H a (bs.map V.bl) ∧ Q (.bl (bs.any id)) H
def rAll (K : PySem.W.Frag) : List V → Hp → VK → Prop := fun vs H Q => ∃ (a : Addr) (bs : List Bool), vs = [V.ref a] ∧ SqL K H a (bs.map V.bl) ∧ Q (.bl (bs.all id)) H
theorem cr_any (hc : X.calm = true) : CallR X (.builtin "any") (rAny X.K) := by
  intro pins s σ H vs us Q I r h
  obtain ⟨a, bs, rfl, hs, q⟩ := h
  obtain ⟨its, rv, hl, _⟩ := I.list hs
  rw [Vals.ref1 r]
  have hb := rv.bls
  refine call_any_walk (iter_any hl.isList fun s₂ e2 st hne => ?_)
  subst e2
  refine ⟨_, _, _, _, _, _, _, rfl, Walks.list (A := X.A.in1) (I.ok.hd hc) _ a hne its.toArray, st, truth_bools hb, fun h' tk hk => ?_⟩
  refine ⟨.bl _, H, I.kept fun b o eo => hk b o (fun hmem => ?_) (Heap.get?_push_of_some _ eo), ?_, q⟩
  · rcases List.mem_cons.mp hmem with e1 | hmem
    · exact absurd (e1 ▸ Heap.lt_size eo) (Nat.lt_irrefl _)
    · cases hmem
  · show Value.bool _ = Value.bool _
    rw [← any_range, hb, List.size_toArray, List.length_map]
theorem cr_all (hc : X.calm = true) : CallR X (.builtin "all") (rAll X.K) := by
  intro pins s σ H vs us Q I r h
  obtain ⟨a, bs, rfl, hs, q⟩ := h
  obtain ⟨its, rv, hl, _⟩ := I.list hs
  rw [Vals.ref1 r]
  have hb := rv.bls
  refine call_all_walk (iter_any hl.isList fun s₂ e2 st hne => ?_)
  subst e2
  refine ⟨_, _, _, _, _, _, _, rfl, Walks.list (A := X.A.in1) (I.ok.hd hc) _ a hne its.toArray, st, truth_bools hb, fun h' tk hk => ?_⟩
  refine ⟨.bl _, H, I.kept fun b o eo => hk b o (fun hmem => ?_) (Heap.get?_push_of_some _ eo), ?_, q⟩
  · rcases List.mem_cons.mp hmem with e1 | hmem
    · exact absurd (e1 ▸ Heap.lt_size eo) (Nat.lt_irrefl _)
    · cases hmem
  · show Value.bool _ = Value.bool _
    rw [← all_range, hb, List.size_toArray, List.length_map]
end

/-! ### == and != of data at any depth: none, bools, ints, texts, lists, tuples -/
mutual
inductive Dp (K : PySem.W.Frag) (H : Hp) : V → PyData → Prop
  | non : Dp K H .non .none
  | bl (b : Bool) : Dp K H (.bl b) (.bool b)
  | int (i : Int) : Dp K H (.int i) (.int i)
  | str (x : Str) : Dp K H (.str x) (.str x)
  | lst {a : Addr} {xs : List V} {ds : List PyData} : SqL K H a xs → DpAll K H xs ds → Dp K H (.ref a) (.list ds)
  | tup {a : Addr} {xs : List V} {ds : List PyData} : SqT K H a xs → DpAll K H xs ds → Dp K H (.ref a) (.tuple ds)
inductive DpAll (K : PySem.W.Frag) (H : Hp) : List V → List PyData → Prop
  | nil : DpAll K H [] []
  | cons {v : V} {vs : List V} {d : PyData} {ds : List PyData} : Dp K H v d → DpAll K H vs ds → DpAll K H (v :: vs) (d :: ds)
end
section
variable {X : Cx} {pins : List (Addr × Obj)} {σ : St} {H : Hp} {s : Shared}
mutual
theorem Dp.reads (I : Inv X pins σ H s) : ∀ (d : PyData) (v : V) (u : Value), Dp X.K H v d → RelV v u → ∃ as, Reads s.heap u d as
  | .none, _, _, h, r => by
    cases h
    cases r
    exact ⟨_, Reads.none⟩
  | .bool b, _, _, h, r => by
    cases h
    cases r
    exact ⟨_, Reads.bool b⟩
  | .int i, _, _, h, r => by
    cases h
    obtain ⟨t, rfl⟩ := r
    exact ⟨_, Reads.int i t⟩
  | .str x, _, _, h, r => by
    cases h
    obtain ⟨t, rfl⟩ := r
    exact ⟨_, Reads.str x t⟩
  | .list ds, _, _, h, r => by
    cases h with
    | lst hs ha =>
      cases r
      obtain ⟨its, rv, ⟨o, n, ho, hc, _, hd⟩, _⟩ := I.list hs
      obtain ⟨as, hr⟩ := Dp.readsAll I ds _ its ha rv
      exact ⟨_, Reads.list ho hc hd hr⟩
  | .tuple ds, _, _, h, r => by
    cases h with
    | tup hs ha =>
      cases r
      obtain ⟨its, rv, ⟨o, ho, hc, n, hd⟩, _⟩ := I.tuple hs
      obtain ⟨as, hr⟩ := Dp.readsAll I ds _ its ha rv
      exact ⟨_, Reads.tuple ho hc hd hr⟩
  | .dict _, _, _, h, _ => by cases h
theorem Dp.readsAll (I : Inv X pins σ H s) : ∀ (ds : List PyData) (vs : List V) (us : List Value), DpAll X.K H vs ds → Vals vs us → ∃ as, ReadsAll s.heap us ds as
  | [], _, _, h, r => by
    cases h
    cases r
    exact ⟨_, ReadsAll.nil⟩
  | d :: ds, _, _, h, r => by
    cases h with
    | cons h1 h2 =>
      cases r with
      | cons r1 r2 =>
        obtain ⟨as, q1⟩ := Dp.reads I d _ _ h1 r1
        obtain ⟨bs, q2⟩ := Dp.readsAll I ds _ _ h2 r2
        exact ⟨_, ReadsAll.cons q1 q2⟩
end
end
section
variable {X : Cx}
def rEqD (K : PySem.W.Frag) : R2 := fun x y H Q => ∃ d e, Dp K H x d ∧ Dp K H y e ∧ SeqAt.shaped d = true ∧ SeqAt.shaped e = true ∧ Q (.bl (PyData.eqv d e)) H
def rNeD (K : PySem.W.Frag) : R2 := fun x y H Q => ∃ d e, Dp K H x d ∧ Dp K H y e ∧ SeqAt.shaped d = true ∧ SeqAt.shaped e = true ∧ Q (.bl (!PyData.eqv d e)) H
theorem op_eqD (hu : X.A.units + 64 < cLine) : OpR X (compareOp .Eq) (rEqD X.K) := by
  intro pins s σ H x y v u Q I rx ry h
  obtain ⟨d, e, hd, he, sd, se, q⟩ := h
  obtain ⟨as, r1⟩ := Dp.reads I d x v hd rx
  obtain ⟨bs, r2⟩ := Dp.reads I e y u he ry
  exact SeqAt.compareEq_shaped r1 r2 sd se hu ⟨.bl _, H, I, rfl, q⟩
theorem op_neD (hu : X.A.units + 64 < cLine) : OpR X (compareOp .NotEq) (rNeD X.K) := by
  intro pins s σ H x y v u Q I rx ry h
  obtain ⟨d, e, hd, he, sd, se, q⟩ := h
  obtain ⟨as, r1⟩ := Dp.reads I d x v hd rx
  obtain ⟨bs, r2⟩ := Dp.reads I e y u he ry
  exact SeqAt.compareNe_shaped r1 r2 sd se hu ⟨.bl _, H, I, rfl, q⟩
end
end L2

namespace L2
open PySem PySem.Spec PyProof.Rows
abbrev CellAt (h : Heap) (c : Addr) (v : Option Value) : Prop := h.IsCell c v
def relS (scope sc : Scope) : Scope :=
  { scope with names := scope.names.map fun (n, k) => if (k == .free && sc.kind == .function && sc.names.lookup n == some .cell) then (n, .cell) else (n, k) }

def cloFrom (cells : List (Str × Addr)) : List (Str × NameKind) → List (Str × Addr) → List (Str × Addr)
  | [], acc => acc
  | (n, k) :: r, acc => if k == .free then cloFrom cells r ((n, (cells.lookup n).getD 0) :: acc) else cloFrom cells r acc

theorem closure_loop (env : Env) (f : Str × NameKind → List (Str × Addr) → Sem (ForInStep (List (Str × Addr))))
    (hf : ∀ n k c, f (n, k) c = if k == .free then (do let a ← cellOf env n; pure (.yield ((n, a) :: c))) else pure (.yield c)) :
    ∀ (names : List (Str × NameKind)) (acc : List (Str × Addr)), (∀ y ∈ names, y.2 = .free → ∃ c, env.cells.lookup y.1 = some c) → forIn names acc f = pure (cloFrom env.cells names acc)
  | [], acc, _ => by rw [List.forIn_nil]; rfl
  | (n, k) :: r, acc, h => by
    rw [List.forIn_cons, hf]
    have ih := fun acc => closure_loop env f hf r acc fun y hy => h y (List.mem_cons_of_mem _ hy)
    unfold cloFrom
    by_cases hk : (k == NameKind.free) = true
    · rw [if_pos hk, if_pos hk]
      obtain ⟨c, hc⟩ := h (n, k) List.mem_cons_self (by simpa using hk)
      have e : cellOf env n = pure c := by unfold cellOf; rw [hc]
      rw [e]
      have e2 : (env.cells.lookup n).getD 0 = c := by rw [hc]; rfl
      rw [e2]
      exact ih _
    · rw [if_neg hk, if_neg hk]
      exact ih _
theorem closure_ok {scope : Scope} {env : Env} (h : ∀ y ∈ scope.names, y.2 = .free → ∃ c, env.cells.lookup y.1 = some c) : closureFor scope env = pure (cloFrom env.cells scope.names []) := by
  simp only [closureFor]
  rw [closure_loop env _ (fun n k c => rfl) scope.names [] h]
  rfl

theorem mem_lookup {α : Type} : ∀ {l : List (Str × α)} {n : Str} {c : α}, (n, c) ∈ l → ∃ c', l.lookup n = some c'
  | (k, v) :: r, n, c, h => by
    rw [List.lookup_cons]
    cases hb : n == k with
    | true => exact ⟨_, rfl⟩
    | false =>
      rcases List.mem_cons.mp h with e | h
      · cases e; simp at hb
      · exact mem_lookup h

theorem cloFrom_mem {cells : List (Str × Addr)} : ∀ {names : List (Str × NameKind)} {acc : List (Str × Addr)} {n : Str} {c : Addr}, (n, c) ∈ cloFrom cells names acc → (n, c) ∈ acc ∨ ((n, .free) ∈ names ∧ c = (cells.lookup n).getD 0)
  | [], _, _, _, h => .inl h
  | (m, k) :: r, acc, n, c, h => by
    unfold cloFrom at h
    split at h
    · rename_i hk
      have hk : k = .free := by simpa using hk
      rcases cloFrom_mem h with h | ⟨h1, h2⟩
      · rcases List.mem_cons.mp h with e | h
        · cases e; exact .inr ⟨hk ▸ List.mem_cons_self, rfl⟩
        · exact .inl h
      · exact .inr ⟨List.mem_cons_of_mem _ h1, h2⟩
    · rcases cloFrom_mem h with h | ⟨h1, h2⟩
      · exact .inl h
      · exact .inr ⟨List.mem_cons_of_mem _ h1, h2⟩
theorem cloFrom_acc {cells : List (Str × Addr)} : ∀ {names : List (Str × NameKind)} {acc : List (Str × Addr)} {p : Str × Addr}, p ∈ acc → p ∈ cloFrom cells names acc
  | [], _, _, h => h
  | (m, k) :: r, acc, p, h => by
    unfold cloFrom
    split
    · exact cloFrom_acc (List.mem_cons_of_mem _ h)
    · exact cloFrom_acc h
theorem cloFrom_has {cells : List (Str × Addr)} : ∀ {names : List (Str × NameKind)} {acc : List (Str × Addr)} {n : Str}, (n, .free) ∈ names → (n, (cells.lookup n).getD 0) ∈ cloFrom cells names acc
  | (m, k) :: r, acc, n, h => by
    unfold cloFrom
    rcases List.mem_cons.mp h with e | h
    · cases e
      exact cloFrom_acc List.mem_cons_self
    · split
      · exact cloFrom_has h
      · exact cloFrom_has h

theorem cells_mem : ∀ {names : List (Str × NameKind)} {h : Heap} {acc : List (Str × Addr)} {x : Str} {c : Addr}, (x, c) ∈ cellsFrom h.objs.size names acc →
    (x, c) ∈ acc ∨ ((x, .cell) ∈ names ∧ h.objs.size ≤ c ∧ CellAt (pushCells h names) c none)
  | [], _, _, _, _, h => .inl h
  | (n, k) :: r, h, acc, x, c, hm => by
    unfold cellsFrom at hm
    unfold pushCells
    split at hm
    · rename_i hk
      rw [if_pos hk]
      have hk : k = .cell := by simpa using hk
      rw [← Heap.size_push h { cls := .type "cell", data := .cell none }] at hm
      rcases cells_mem hm with hm | ⟨h1, h2, h3⟩
      · rcases List.mem_cons.mp hm with e | hm
        · cases e
          exact .inr ⟨hk ▸ List.mem_cons_self, Nat.le_refl _, _, pushCells_keeps r _ _ _ (Heap.get?_push_size _ rfl), rfl⟩
        · exact .inl hm
      · rw [Heap.size_push] at h2
        exact .inr ⟨List.mem_cons_of_mem _ h1, Nat.le_of_succ_le h2, h3⟩
    · rename_i hk
      rw [if_neg hk]
      rcases cells_mem hm with hm | ⟨h1, h2, h3⟩
      · exact .inl hm
      · exact .inr ⟨List.mem_cons_of_mem _ h1, h2, h3⟩
theorem cells_acc : ∀ {names : List (Str × NameKind)} {n : Nat} {acc : List (Str × Addr)} {p : Str × Addr}, p ∈ acc → p ∈ cellsFrom n names acc
  | [], _, _, _, h => h
  | (m, k) :: r, n, acc, p, h => by
    unfold cellsFrom
    split
    · exact cells_acc (List.mem_cons_of_mem _ h)
    · exact cells_acc h
theorem cells_has : ∀ {names : List (Str × NameKind)} {n : Nat} {acc : List (Str × Addr)} {x : Str}, (x, .cell) ∈ names → ∃ c, (x, c) ∈ cellsFrom n names acc
  | (m, k) :: r, n, acc, x, h => by
    unfold cellsFrom
    rcases List.mem_cons.mp h with e | h
    · cases e
      exact ⟨n, cells_acc List.mem_cons_self⟩
    · split
      · exact cells_has h
      · exact cells_has h
theorem cells_inj : ∀ {names : List (Str × NameKind)} {h : Heap} {acc : List (Str × Addr)} {x y : Str} {c : Addr}, (∀ p ∈ acc, p.2 < h.objs.size) → (∀ x y c, (x, c) ∈ acc → (y, c) ∈ acc → x = y) →
    (x, c) ∈ cellsFrom h.objs.size names acc → (y, c) ∈ cellsFrom h.objs.size names acc → x = y
  | [], _, _, _, _, _, _, hi, h1, h2 => hi _ _ _ h1 h2
  | (n, k) :: r, h, acc, x, y, c, hl, hi, h1, h2 => by
    unfold cellsFrom at h1 h2
    split at h1
    · rename_i hk
      rw [if_pos hk] at h2
      rw [← Heap.size_push h { cls := .type "cell", data := .cell none }] at h1 h2
      refine cells_inj (h := h.push _) (fun p hp => ?_) (fun x y c a b => ?_) h1 h2
      · rw [Heap.size_push]
        rcases List.mem_cons.mp hp with rfl | hp
        · exact Nat.lt_succ_self _
        · exact Nat.lt_succ_of_lt (hl p hp)
      · rcases List.mem_cons.mp a with e | a <;> rcases List.mem_cons.mp b with e' | b
        · cases e; cases e'; rfl
        · cases e; exact absurd (hl _ b) (Nat.lt_irrefl _)
        · cases e'; exact absurd (hl _ a) (Nat.lt_irrefl _)
        · exact hi _ _ _ a b
    · rename_i hk
      rw [if_neg hk] at h2
      exact cells_inj hl hi h1 h2

theorem newEnv_comp {M : Model} {A : Around} {E : Value → Shared → Prop} {s : Shared} {scope : Scope} {globals : Addr} {closure : List (Str × Addr)} {qual : Str} {func : Option Addr} {code : Value} {around : Env} {builtins : Addr} {Q : Env → Shared → Prop}
    (h : Q (newEnv scope s.heap.objs.size globals (cellsFrom (s.heap.objs.size + 1) scope.names closure) qual func code (some around) builtins)
      { s with heap := pushCells (s.heap.push { cls := .type "dict", data := .dict #[] }) scope.names }) :
    wpAny M A (newFunctionEnv scope globals closure [] qual func code (some around) builtins) Q E s := by
  simp only [newFunctionEnv, Option.isSome_some, if_true]
  refine wpAny_bind (wpAny_alloc ?_)
  refine wpAny_bind (wpAny_layCells _ (fun n k c => rfl) scope.names closure _ _ ?_)
  rw [show ({ s with heap := s.heap.push { cls := .type "dict", data := .dict #[] } } : Shared).heap.objs.size = s.heap.objs.size + 1 from Heap.size_push ..]
  rw [List.forIn_nil]
  exact wpAny_bind (wpAny_pure (wpAny_pure h))

/-- every name of the written scope, in the scope that runs -/
theorem lookup_relS {sc : Scope} : ∀ {names : List (Str × NameKind)} {x : Str} {k : NameKind},
    (names.map fun (n, k) => if (k == NameKind.free && sc.kind == .function && sc.names.lookup n == some .cell) then (n, NameKind.cell) else (n, k)).lookup x = some k →
    ∃ k', names.lookup x = some k' ∧ (k = k' ∨ (k' = .free ∧ k = .cell))
  | [], _, _, h => by simp at h
  | (n, k₀) :: r, x, k, h => by
    have ih := @lookup_relS sc r x k
    have h' : List.lookup x ((if (k₀ == NameKind.free && sc.kind == .function && sc.names.lookup n == some .cell) = true then (n, NameKind.cell) else (n, k₀)) :: (r.map _)) = some k := h
    cases hx : x == n with
    | true =>
      simp only [List.lookup_cons, hx]
      by_cases hc : (k₀ == NameKind.free && sc.kind == .function && sc.names.lookup n == some .cell) = true
      · rw [if_pos hc] at h'
        simp only [List.lookup_cons, hx] at h'
        cases h'
        simp only [Bool.and_eq_true, beq_iff_eq] at hc
        exact ⟨k₀, rfl, .inr ⟨hc.1.1, rfl⟩⟩
      · rw [if_neg hc] at h'
        simp only [List.lookup_cons, hx] at h'
        cases h'
        exact ⟨_, rfl, .inl rfl⟩
    | false =>
      simp only [List.lookup_cons, hx]
      by_cases hc : (k₀ == NameKind.free && sc.kind == .function && sc.names.lookup n == some .cell) = true
      · rw [if_pos hc] at h'
        simp only [List.lookup_cons, hx] at h'
        exact ih h'
      · rw [if_neg hc] at h'
        simp only [List.lookup_cons, hx] at h'
        exact ih h'



/-- the names of a comprehension's block: its own (with their places in N), or captured -/
structure BlkOk (N : List Str) (sc scope : Scope) (own : List (Str × Nat)) : Prop where
  kind : scope.kind = .function
  uniq : ∀ y ∈ scope.names, scope.names.lookup y.1 = some y.2
  ix : ∀ p ∈ own, N[p.2]? = some p.1
  free : ∀ y ∈ scope.names, y.2 = .free → sc.names.lookup y.1 = some .cell ∨ sc.names.lookup y.1 = some .free
  own : ∀ y ∈ scope.names, y.2 = .local ∨ y.2 = .cell → y.1 ∈ own.map (·.1) ∨ y.1 ∉ N
/-- the slots of the block's own names forgotten -/
def wipe (σ : St) : List Nat → St
  | [] => σ
  | v :: vs => (wipe σ vs).set v none
theorem wipe_length (σ : St) : ∀ vs : List Nat, (wipe σ vs).length = σ.length
  | [] => rfl
  | v :: vs => by unfold wipe; rw [List.length_set, wipe_length σ vs]
theorem wipe_some {σ : St} {i : Nat} {x : V} : ∀ {vs : List Nat}, (wipe σ vs)[i]? = some (some x) → σ[i]? = some (some x) ∧ i ∉ vs
  | [], h => ⟨h, by simp⟩
  | v :: vs, h => by
    unfold wipe at h
    by_cases hi : v = i
    · subst hi
      by_cases hv : v < (wipe σ vs).length
      · rw [List.getElem?_set_self hv] at h; cases h
      · rw [List.getElem?_eq_none (by simpa using hv)] at h; cases h
    · rw [List.getElem?_set_ne hi] at h
      obtain ⟨h1, h2⟩ := wipe_some h
      exact ⟨h1, by simp only [List.mem_cons, not_or]; exact ⟨fun e => hi e.symm, h2⟩⟩

/-- the context of a block that starts at s, its iterator's objects at fp -/
abbrev Cx.blk (X : Cx) (s : Shared) (H : Hp) (scope : Scope) (cenv : Env) (fp : List Addr) : Cx := { X with s_0 := s, H_0 := H, env := cenv, outer := X.stack, ex := fp, fn := fun x => scope.names.lookup x == some .cell, pn := [], xe := fun _ _ => False }
section
variable {X : Cx} {pins : List (Addr × Obj)} {σ : St} {H : Hp} {s : Shared}
theorem block_start {scope : Scope} {own : List (Str × Nat)} {fp : List Addr} (I : Inv X pins σ H s) (ok : BlkOk X.N X.env.scope scope own) (hN : X.N.Nodup) (hfp : ∀ b ∈ fp, FpOk X pins H b ∧ b < s.heap.objs.size) :
    Inv (X.blk s H scope (compEnvC scope (cellsFrom (s.heap.objs.size + 1) scope.names (cloFrom X.env.cells scope.names [])) s.heap.objs.size X.env) fp) [] (wipe σ (own.map (·.2))) H { s with heap := pushCells (s.heap.push { cls := .type "dict", data := .dict #[] }) scope.names } := by
  have hfree : ∀ y ∈ scope.names, y.2 = .free → ∃ c, X.env.cells.lookup y.1 = some c := fun y hy e => by
    rcases ok.free y hy e with k | k
    · exact I.ok.has _ (.inl k)
    · exact I.ok.has _ (.inr k)
  generalize hcenv : compEnvC scope (cellsFrom (s.heap.objs.size + 1) scope.names (cloFrom X.env.cells scope.names [])) s.heap.objs.size X.env = cenv
  have kp : ∀ b o, s.heap.get? b = some o → (pushCells (s.heap.push { cls := .type "dict", data := .dict #[] }) scope.names).get? b = some o := fun b o e => pushCells_keeps _ _ _ _ (Heap.get?_push_of_some _ e)
  have hL : cenv.locals = s.heap.objs.size := by rw [← hcenv]; rfl
  have hcl : cenv.cells = cellsFrom (s.heap.objs.size + 1) scope.names (cloFrom X.env.cells scope.names []) := by rw [← hcenv]; rfl
  have hsc : cenv.scope = relS scope X.env.scope := by rw [← hcenv]; rfl
  rw [← Heap.size_push s.heap { cls := .type "dict", data := .dict #[] }] at hcl
  have cm : ∀ {y c}, (y, c) ∈ cloFrom X.env.cells scope.names [] → X.env.cells.lookup y = some c ∧ c < s.heap.objs.size := fun {y c} hm => by
    rcases cloFrom_mem hm with hm | ⟨h1, rfl⟩
    · cases hm
    · obtain ⟨c, hc⟩ := hfree _ h1 rfl
      rw [hc]
      obtain ⟨w, z⟩ := I.cell _ _ hc
      exact ⟨rfl, z.lt⟩
  have mem : ∀ {y c}, cenv.cells.lookup y = some c → (X.env.cells.lookup y = some c ∧ c < s.heap.objs.size) ∨ (s.heap.objs.size + 1 ≤ c ∧ CellAt (pushCells (s.heap.push { cls := .type "dict", data := .dict #[] }) scope.names) c none) := fun {y c} e => by
    rw [hcl] at e
    rcases cells_mem (PySem.mem_of_lookup e) with hm | ⟨_, h2, h3⟩
    · exact .inl (cm hm)
    · rw [Heap.size_push] at h2; exact .inr ⟨h2, h3⟩
  have look : ∀ {y}, scope.names.lookup y = some .free → ∃ c, cenv.cells.lookup y = some c ∧ X.env.cells.lookup y = some c := fun {y} hl => by
    have hy : (y, NameKind.free) ∈ scope.names := PySem.mem_of_lookup hl
    obtain ⟨c', e'⟩ := mem_lookup (cells_acc (names := scope.names) (n := (s.heap.push { cls := .type "dict", data := .dict #[] }).objs.size) (cloFrom_has (cells := X.env.cells) (acc := []) hy))
    rw [← hcl] at e'
    refine ⟨c', e', ?_⟩
    rw [hcl] at e'
    rcases cells_mem (PySem.mem_of_lookup e') with hm | ⟨h1, _, _⟩
    · exact (cm hm).1
    · have := ok.uniq _ h1
      rw [hl] at this; cases this
  have okB : (X.blk s H scope cenv fp).Ok := by
    refine ⟨I.ok.mod, by show cenv.scope.kind = _; rw [hsc]; exact ok.kind, by show cenv.globals = _; rw [← hcenv]; exact I.ok.glob, by show cenv.builtins = _; rw [← hcenv]; exact I.ok.blt, by show s.heap.objs.size ≤ cenv.locals; rw [hL]; exact Nat.le_refl _,
      fun y z c e1 e2 => ?_, fun y hy => ?_, fun y c z e => ?_, I.ok.hd, I.ok.frames, .inl rfl, fun b hb => ⟨?_, fun y c e z => ?_⟩, I.bs, Nat.le_trans I.ok.bsz I.sz, fun b o e hb => ?_, fun b hb z => ?_, I.stack, I.stkFree⟩
    · have e1 : cenv.cells.lookup y = some c := e1
      have e2 : cenv.cells.lookup z = some c := e2
      rw [hcl] at e1 e2
      refine cells_inj (fun p hp => ?_) (fun y z c a b => I.ok.inj y z c (cm a).1 (cm b).1) (PySem.mem_of_lookup e1) (PySem.mem_of_lookup e2)
      rw [Heap.size_push]
      exact Nat.lt_succ_of_lt (cm (y := p.1) (c := p.2) hp).2
    · show ∃ c, cenv.cells.lookup y = some c
      have key : ∀ k, cenv.kindOf y = some k → (k = .cell ∨ k = .free) → ∃ c, cenv.cells.lookup y = some c := fun k hk hk' => by
        unfold Env.kindOf at hk
        rw [hsc] at hk
        obtain ⟨k', e, r⟩ := lookup_relS hk
        have : k' = .cell ∨ k' = .free := by
          rcases r with rfl | ⟨rfl, _⟩
          · exact hk'
          · exact .inr rfl
        rcases this with rfl | rfl
        · obtain ⟨c, hm⟩ := cells_has (n := (s.heap.push { cls := .type "dict", data := .dict #[] }).objs.size) (acc := cloFrom X.env.cells scope.names []) (PySem.mem_of_lookup e)
          obtain ⟨c', e'⟩ := mem_lookup hm
          exact ⟨c', by rw [hcl]; exact e'⟩
        · obtain ⟨c, h1, _⟩ := look e
          exact ⟨c, h1⟩
      rcases hy with hy | hy
      · exact key _ hy (.inl rfl)
      · exact key _ hy (.inr rfl)
    · have z : (scope.names.lookup y == some NameKind.cell) = true := z
      have z : scope.names.lookup y = some .cell := by simpa using z
      have e : cenv.cells.lookup y = some c := e
      rw [hcl] at e
      rcases cells_mem (PySem.mem_of_lookup e) with hm | ⟨_, h2, _⟩
      · rcases cloFrom_mem hm with hm | ⟨h1, _⟩
        · cases hm
        · have q := ok.uniq _ h1
          rw [z] at q; cases q
      · rw [Heap.size_push] at h2
        exact Nat.le_of_succ_le h2
    · show b ≠ cenv.locals
      rw [hL]; exact Nat.ne_of_lt (hfp b hb).2
    · have e : cenv.cells.lookup y = some c := e
      rcases mem e with ⟨h1, _⟩ | ⟨h1, _⟩
      · exact (hfp b hb).1.2.2.2.2.1 y c h1 z
      · have h2 : s.heap.objs.size + 1 ≤ b := by rw [← z]; exact h1
        exact absurd (Nat.lt_of_lt_of_le (hfp b hb).2 (Nat.le_of_succ_le h2)) (Nat.lt_irrefl _)
    · rcases (hfp b hb).1.2.2.2.1 with z | z
      · exact I.ok.noex b o e z
      · exact absurd (Nat.lt_of_lt_of_le (Heap.lt_size e) (Nat.le_trans I.ok.bsz z)) (Nat.lt_irrefl _)
    · rcases List.mem_cons.mp (I.stkSub b z) with z | z
      · exact (hfp b hb).1.2.1 z
      · exact (hfp b hb).1.2.2.1 z
  refine ⟨okB, rfl, I.bare, Un.kept kp, ⟨fun _ => none, ?_, fun i y av e1 e2 e3 => ?_⟩, fun y c e => ?_, ?_, fun y c e => ?_, fun p hp => ?_, I.hok.kept kp, by rw [wipe_length]; exact I.len⟩
  · show Heap.Ns _ cenv.locals _
    rw [hL]
    exact Heap.Ns.keeps (Heap.Ns.new ..) fun b o e => pushCells_keeps _ _ _ _ e
  · obtain ⟨e2, hne⟩ := wipe_some e2
    have hfr : scope.names.lookup y = some .free ∧ (cenv.kindOf y = some .cell ∨ cenv.kindOf y = some .free) := by
      have key : ∀ k, cenv.scope.names.lookup y = some k → k = .local ∨ k = .cell ∨ k = .free → scope.names.lookup y = some .free ∧ (cenv.kindOf y = some .cell ∨ cenv.kindOf y = some .free) := fun k hk hk' => by
        have hk0 := hk
        rw [hsc] at hk
        obtain ⟨k', e, r⟩ := lookup_relS hk
        have no : ¬ (k' = .local ∨ k' = .cell) := fun hh => by
          rcases ok.own _ (PySem.mem_of_lookup e) hh with e' | e'
          · obtain ⟨p, hp, hpy⟩ := List.mem_map.mp e'
            have e3 := ok.ix p hp
            have : p.1 = y := hpy
            rw [this] at e3
            exact hne (List.mem_map.mpr ⟨p, hp, nodup_ix hN e3 e1⟩)
          · exact e' (List.mem_of_getElem? e1)
        rcases r with rfl | ⟨rfl, rfl⟩
        · rcases hk' with rfl | rfl | rfl
          · exact absurd (.inl rfl) no
          · exact absurd (.inr rfl) no
          · exact ⟨e, .inr hk0⟩
        · exact ⟨e, .inl hk0⟩
      have e3 : Vis cenv.scope y := e3
      rcases e3 with e3 | e3 | e3
      · exact key _ e3 (.inl rfl)
      · exact key _ e3 (.inr (.inl rfl))
      · exact key _ e3 (.inr (.inr rfl))
    obtain ⟨m, hn, hl⟩ := I.loc
    have hvis : Vis X.env.scope y := (ok.free _ (PySem.mem_of_lookup hfr.1) rfl).elim (fun k => .inr (.inl k)) (fun k => .inr (.inr k))
    obtain ⟨w, r, q⟩ := hl i y av e1 e2 hvis
    refine ⟨w, r, .inr ⟨hfr.2, ?_⟩⟩
    obtain ⟨c, h1, h2⟩ := look hfr.1
    rcases q with ⟨k, _⟩ | ⟨_, c', e', z⟩
    · have k : X.env.scope.names.lookup y = some .local := k
      rcases ok.free _ (PySem.mem_of_lookup hfr.1) rfl with k' | k' <;> rw [show X.env.scope.names.lookup y = _ from k'] at k <;> cases k
    · rw [h2] at e'; cases e'
      exact ⟨c, h1, z.keeps kp⟩
  · have e : cenv.cells.lookup y = some c := e
    rcases mem e with ⟨h1, _⟩ | ⟨_, z⟩
    · obtain ⟨w, z⟩ := I.cell y c h1
      exact ⟨w, z.keeps kp⟩
    · exact ⟨_, z⟩
  · show H cenv.locals = none
    rw [hL]; exact I.hok.fresh (Nat.le_refl _)
  · have e : cenv.cells.lookup y = some c := e
    rcases mem e with ⟨h1, _⟩ | ⟨h1, _⟩
    · exact I.freeC y c h1
    · exact I.hok.fresh (Nat.le_of_succ_le h1)
  · exact absurd (show p ∈ ([] : List (Addr × Obj)) ++ [] from hp) (by simp)

/-- an item appended to a tracked list -/
theorem app_ok {E : Value → Shared → Prop} {D : Addr} {xs : List V} {y : V} {v : Value} {Q : Value → Shared → Prop} (I : Inv X pins σ H s) (hD : H D = some (.lst xs)) (hz : xs.length < sizeLine) (r : RelV y v)
    (h : ∀ s', Inv X pins σ (upd H D (.lst (xs ++ [y]))) s' → Q .none s') : wpAny (model X.prog X.w) X.A (call (.builtin "list.append") [.ref D, v]) Q E s := by
  obtain ⟨hz', its, n, ri, e⟩ := I.hok D _ hD
  have hl := ri.length
  refine append_at (hsz := by rw [List.size_toArray]; omega) e fun h' sb ho' => ?_
  refine h { s with heap := h' } (I.write (t' := s.toks) (by rw [hD]; trivial) (.inl rfl) (fun b u hb q => (sb.2 b hb).trans q) ⟨_, ho'⟩ ⟨by rw [List.length_append]; exact hz, its ++ [v], n + 1, ri.append (.cons r .nil), ?_⟩)
  rw [ho']
  simp

/-- a clause's tests -/
def PTs (X : Cx) (ifs : List Expr) (t : TT) : Prop :=
  ∀ (pins : List (Addr × Obj)) (s : Shared) (σ : St) (H : Hp) (Q : Bool → Hp → Prop), Inv X pins σ H s → t σ H Q →
    wpAny (model X.prog X.w) X.A (forIn ifs true fun c r => if r = true then do let ok ← isTrue c X.env (eval c X.env); pure (ForInStep.yield ok) else pure (ForInStep.yield r)) (TP X pins σ Q) X.xe s
def tYes : TT := fun _ H Q => Q true H
theorem pts_nil : PTs X [] tYes := fun _ _ _ H _ I h => wpAny_tests_nil ⟨H, I, h⟩
theorem pts_one {c : Expr} {t : TT} (h : PT X c t) : PTs X [c] t := fun pins s σ H Q I hw => wpAny_tests_one (h pins s σ H Q I hw)
end

theorem thnF {α : Type} {t : Sem α} {Q Q' : α → Shared → Prop} {M : Model} {A : Around} {E : Value → Shared → Prop} {s : Shared} (h : wpAny M A t Q (fun _ _ => False) s) (hQ : ∀ a s, Q a s → Q' a s) : wpAny M A t Q' E s := wpAny_mono h hQ fun _ _ z => False.elim z

/-- the loop of a list comprehension's block, the target of any form (codeAny_compLoop_tests asks a target that no tuple goes to; statement and proof follow it, PyProof/CompMap.lean:41-61, with the step letOwnedTupleGo kept) -/
theorem compLoop_any {prog : Program} {w : World} {A : Around} {R : Result → Shared → Prop} {s : Shared} {elt target iter : Expr} {ifs : List Expr} {scope : Scope} {pos : Pos} {it acc : Value} {env : Env} (I : Nat → Shared → Prop)
    (turn : ∀ n s, I n s → wpAny (model prog w) A (pyNext it) (fun r s₁ => match r with
      | none => R (.ok .next) s₁
      | some v => wpAny (model prog w) A (letOwnedTupleGo target it v) (fun _ s₁' => wpAny (model prog w) A (assign target env v) (fun _ s₂ =>
          wpAny (model prog w) A (forIn ifs true fun c r => if r = true then do let ok ← isTrue c env (eval c env); pure (ForInStep.yield ok) else pure (ForInStep.yield r)) (fun ok s₃ =>
            if ok = true then wpAny (model prog w) A (eval elt env) (fun x s₄ =>
              wpAny (model prog w) A (call (.builtin "list.append") [acc, x]) (fun _ s₅ => ∃ m, m < n ∧ I m s₅) (notedBy (model prog w) A env fun e s' => R (.error e) s') s₄) (notedBy (model prog w) A env fun e s' => R (.error e) s') s₃
            else ∃ m, m < n ∧ I m s₃) (notedBy (model prog w) A env fun e s' => R (.error e) s') s₂) (notedBy (model prog w) A env fun e s' => R (.error e) s') s₁') (notedBy (model prog w) A env fun e s' => R (.error e) s') s₁) (notedBy (model prog w) A env fun e s' => R (.error e) s') s)
    (n : Nat) (h : I n s) :
    codeAny (model prog w) A (.compLoop (.ListComp elt [⟨target, iter, ifs, 0⟩] scope pos) 0 it acc env) R s := by
  refine codeAny_loop rfl I (fun n s hI => ?_) n h
  show wpAny _ A ((compTurn (.ListComp elt [⟨target, iter, ifs, 0⟩] scope pos) 0 it acc env).onRaise (fun x => do noteFrame x env; theTreesLotGoes x)) _ _ s
  refine wpAny_noted ?_
  rw [compTurn_list]
  refine wpAny_bind (wpAny_standAt (wpAny_bind (wpAny_mono (turn n s hI) (fun r s₁ h₁ => ?_) fun _ _ h' => h')))
  cases r with
  | none => exact wpAny_pure h₁
  | some v =>
    refine wpAny_bind (wpAny_mono h₁ (fun _ s₁' h₁' => ?_) fun _ _ h' => h')
    refine wpAny_bind (wpAny_mono h₁' (fun _ s₂ h₂ => wpAny_bind (wpAny_mono h₂ (fun ok s₃ h₃ => ?_) fun _ _ h' => h')) fun _ _ h' => h')
    cases ok with
    | false => exact wpAny_pure ⟨rfl, h₃⟩
    | true =>
      exact wpAny_bind (wpAny_bind (wpAny_mono h₃ (fun x s₄ h₄ => wpAny_bind (wpAny_mono h₄ (fun _ s₅ h₅ => wpAny_pure (wpAny_pure ⟨rfl, h₅⟩)) fun _ _ h' => h')) fun _ _ h' => h'))

section
variable {X : Cx}
/-- [elt for target in iter if ..]: D the new list; W by the turn and a measure, Nx what a turn is to reach -/
def tLc (wi : TI) (g : TG) (tt : TT) (te : TE) (vs : List Nat) : TE := fun σ H Q => wi σ H fun J H1 => ∀ D, H1 D = none → ∃ W : Nat → Nat → Hp → Prop, (∃ m, W 0 m (upd H1 D (.lst []))) ∧ ∀ i m H, W i m H →
  (J.stop i H ∧ Q (.ref D) H) ∨ (J.go i H ∧ ∃ Nx : Hp → Prop, (∀ H', Nx H' → ∃ m', m' < m ∧ W (i + 1) m' H') ∧ ∀ x H', J.yld i H x H' → g x (wipe σ vs) H' fun σ2 H2 => wipe σ2 vs = wipe σ vs ∧ tt σ2 H2 fun b H3 =>
    if b = true then te σ2 H3 fun y H4 => ∃ acc, H4 D = some (.lst acc) ∧ acc.length < sizeLine ∧ Nx (upd H4 D (.lst (acc ++ [y]))) else Nx H3)
theorem lc_core {pins : List (Addr × Obj)} {s : Shared} {σ : St} {H : Hp} {Q : VK} {elt tg iter : Expr} {ifs : List Expr} {scope : Scope} {own : List (Str × Nat)} {pos pos' : Pos} {wi : TI} {g : TG} {tt : TT} {te : TE} {use : Option (Value → Sem Unit)} {Qf : Value → Shared → Prop}
    (hc : X.calm = true) (hN : X.N.Nodup) (I : Inv X pins σ H s) (hi : PI X tg iter wi) (ok : BlkOk X.N X.env.scope scope own)
    (hg : ∀ (s : Shared) (H : Hp) (C : Addr) (cl : List (Str × Addr)) (fp : List Addr), PG (X.blk s H scope (compEnvC scope cl C X.env) fp) tg g) (ht : ∀ (s : Shared) (H : Hp) (C : Addr) (cl : List (Str × Addr)) (fp : List Addr), PTs (X.blk s H scope (compEnvC scope cl C X.env) fp) ifs tt)
    (he : ∀ (s : Shared) (H : Hp) (C : Addr) (cl : List (Str × Addr)) (fp : List Addr), PE (X.blk s H scope (compEnvC scope cl C X.env) fp) elt te) (hs : ∀ x, foldedSetIterable iter X.env x = pure x)
    (h : tLc wi g tt te (own.map (·.2)) σ H Q)
    (hRR : ∀ D C s' m H', Inv X pins σ H' s' → Q (.ref D) H' → s'.heap.Ns C m → FpOk X pins H' C → compPost (model X.prog X.w) X.A X.xe use Qf (.ref D) C (.ok .next) s') :
    wpAny (model X.prog X.w) X.A (comprehension (.ListComp elt [⟨tg, iter, ifs, 0⟩] scope pos) scope X.env pos' (newList []) false (eval iter X.env) use) Qf X.xe s := by
  have hfree : ∀ y ∈ scope.names, y.2 = .free → ∃ c, X.env.cells.lookup y.1 = some c := fun y hy e => by
    rcases ok.free y hy e with k | k
    · exact I.ok.has _ (.inl k)
    · exact I.ok.has _ (.inr k)
  refine wpAny_comprehension_free (use := use) rfl hs (closure_ok hfree) ok.kind (fun y hy e => by rw [ok.uniq y hy, e])
    (thn (hi pins s σ H _ I h) fun xv s1 hx => thn hx fun itv s2 h2 => ?_)
  obtain ⟨it, fp, tn, J, H2, e, I2, T, st2, f2, q⟩ := h2
  subst e
  refine wpAny_newObj_type (newEnv_comp ?_) (by show 0 ≤ sizeLine; decide)
  generalize hD : s2.heap.objs.size = D
  have hDn : H2 D = none := I2.hok.fresh (Nat.le_of_eq hD)
  obtain ⟨W, ⟨m0, w0⟩, turn⟩ := q D hDn
  -- the new list
  generalize hs3 : ({ s2 with heap := s2.heap.push { cls := .type "list", data := .seq ([] : List Value).toArray } } : Shared) = s3
  have I3 : Inv X pins σ (upd H2 D (.lst [])) s3 := by
    rw [← hs3]
    refine I2.laid (t' := s2.toks) (fun b o e => Heap.get?_push_of_some _ e) (Nat.le_of_eq hD) ⟨Nat.zero_le _, [], 0, .nil, ?_⟩
    rw [← hD]
    exact Heap.get?_push_size _ rfl
  have h3 : s3.heap = s2.heap.push { cls := .type "list", data := .seq ([] : List Value).toArray } := by rw [← hs3]
  have sz : ∀ b ∈ fp, b < s2.heap.objs.size := fun b hb => by
    obtain ⟨o, e, _⟩ := T.obj _ _ st2 b hb
    exact Heap.lt_size e
  have f3 : ∀ b ∈ fp, FpOk X pins (upd H2 D (.lst [])) b ∧ b < s3.heap.objs.size := fun b hb => by
    have hlt := sz b hb
    refine ⟨⟨?_, (f2 b hb).2⟩, by rw [h3, Heap.size_push]; exact Nat.lt_succ_of_lt hlt⟩
    rw [upd_ne (by rw [← hD]; exact Nat.ne_of_lt hlt)]
    exact (f2 b hb).1
  have st3 : tn 0 s3.heap := T.keep _ _ _ st2 fun b _ o e => by rw [h3]; exact Heap.get?_push_of_some _ e
  have I4 := block_start I3 ok hN f3
  have pg := hg s3 (upd H2 D (.lst [])) s3.heap.objs.size (cellsFrom (s3.heap.objs.size + 1) scope.names (cloFrom X.env.cells scope.names [])) fp
  have pt := ht s3 (upd H2 D (.lst [])) s3.heap.objs.size (cellsFrom (s3.heap.objs.size + 1) scope.names (cloFrom X.env.cells scope.names [])) fp
  have pe := he s3 (upd H2 D (.lst [])) s3.heap.objs.size (cellsFrom (s3.heap.objs.size + 1) scope.names (cloFrom X.env.cells scope.names [])) fp
  show codeAny _ _ (.compStart (.ListComp elt [⟨tg, iter, ifs, 0⟩] scope pos) 0 (.ref it) (.ref D) (compEnvC scope (cellsFrom (s3.heap.objs.size + 1) scope.names (cloFrom X.env.cells scope.names [])) s3.heap.objs.size X.env)) (compPost (model X.prog X.w) X.A X.xe use Qf (.ref D) s3.heap.objs.size) { s3 with heap := pushCells (s3.heap.push { cls := .type "dict", data := .dict #[] }) scope.names }
  have nfp : ∀ b ∈ fp, (upd H2 D (.lst [])) b = none := fun b hb => (f3 b hb).1.1
  generalize hce : compEnvC scope (cellsFrom (s3.heap.objs.size + 1) scope.names (cloFrom X.env.cells scope.names [])) s3.heap.objs.size X.env = ce at I4 pg pt pe ⊢
  have cL : ce.locals = s3.heap.objs.size := by subst hce; rfl
  generalize hH3 : upd H2 D (.lst []) = H3 at I3 I4 pg pt pe w0 nfp f3
  generalize hs4 : ({ s3 with heap := pushCells (s3.heap.push { cls := .type "dict", data := .dict #[] }) scope.names } : Shared) = s4 at I4 ⊢
  have st4 : tn 0 s4.heap := T.keep _ _ _ st3 fun b _ o e => by rw [← hs4]; exact pushCells_keeps _ _ _ _ (Heap.get?_push_of_some _ e)
  have stat : ∀ {σ' : St} {H' : Hp} {s' : Shared}, Inv (X.blk s3 H3 scope ce fp) [] σ' H' s' → (∀ b ∈ fp, H' b = none) → ∀ b ∈ fp, FpOk (X.blk s3 H3 scope ce fp) [] H' b := fun {σ' H' s'} I' hn b hb =>
    ⟨hn b hb, (I'.ok.exf b hb).1, I'.ok.exfs b hb, .inl hb, fun x c e => (I'.ok.exf b hb).2 x c e, fun p hp => absurd (show p ∈ ([] : List (Addr × Obj)) ++ [] from hp) (by simp)⟩
  have loop : codeAny (model X.prog X.w) X.A (.compLoop (.ListComp elt [⟨tg, iter, ifs, 0⟩] scope pos) 0 (.ref it) (.ref D) ce) (compPost (model X.prog X.w) X.A X.xe use Qf (.ref D) s3.heap.objs.size) s4 := by
    refine compLoop_any (fun n s' => ∃ i H', Inv (X.blk s3 H3 scope ce fp) [] (wipe σ (own.map (·.2))) H' s' ∧ tn i s'.heap ∧ (∀ b ∈ fp, H' b = none) ∧ W i n H') ?_ m0 ⟨0, H3, I4, st4, nfp, w0⟩
    rintro n s5 ⟨i, H5, I5, st5, n5, w5⟩
    rcases turn i n H5 w5 with ⟨stop, qq⟩ | ⟨go, Nx, hNx, step⟩
    · have td := T.done (X.blk s3 H3 scope ce fp) rfl rfl rfl hc i [] s5 _ H5 (fun _ _ => False) I5 (stat I5 n5) st5 stop
      refine thnF td fun r s6 ⟨hr, I6⟩ => ?_
      subst hr
      -- back in the def's context
      have I7 : Inv X pins σ H5 s6 := I3.call' (ch := fp) I6.os I6.base I6.hok I6.bare fun b hb => ⟨(f3 b hb).1.2.2.2.1, (f3 b hb).1.2.1, (f3 b hb).1.2.2.2.2.1, (f3 b hb).1.2.2.2.2.2⟩
      have nC : H5 s3.heap.objs.size = none := by
        have z : H5 ce.locals = none := I6.free
        rw [cL] at z
        exact z
      obtain ⟨m, hn, _⟩ := I6.loc
      have hn : s6.heap.Ns ce.locals m := hn
      rw [cL] at hn
      exact hRR D s3.heap.objs.size s6 m H5 I7 qq hn (I3.fpOk (Nat.le_refl _) nC)
    · have ti := T.item (X.blk s3 H3 scope ce fp) rfl rfl rfl hc i [] s5 _ H5 (fun _ _ => False) I5 (stat I5 n5) st5 go
      refine thnF ti fun r s6 ⟨u, hr, h6⟩ => ?_
      subst hr
      refine thnF h6 fun _ s7 ⟨x, H7, I7, r7, y7, st7, n7⟩ => ?_
      have I7' := I7.pinned (stat I7 n7) (T.obj _ _ st7)
      refine thnF (pg _ s7 _ H7 x u _ I7' r7 (step x H7 y7)) fun _ s8 ⟨σ8, H8, I8, hw8, q8⟩ => ?_
      refine thnF (pt _ s8 σ8 H8 _ I8 q8) fun b s9 ⟨H9, I9, q9⟩ => ?_
      -- the turn's end
      have fin : ∀ {s' : Shared} {H' : Hp}, Inv (X.blk s3 H3 scope ce fp) ([] ++ pinsAt fp s7.heap) σ8 H' s' → Nx H' → ∃ m, m < n ∧ ∃ i H', Inv (X.blk s3 H3 scope ce fp) [] (wipe σ (own.map (·.2))) H' s' ∧ tn i s'.heap ∧ (∀ b ∈ fp, H' b = none) ∧ W i m H' := fun {s' H'} I' nx => by
        obtain ⟨m', hm, w'⟩ := hNx H' nx
        have pin' : ∀ b ∈ fp, ∀ o, s7.heap.get? b = some o → s'.heap.get? b = some o ∧ H' b = none := fun b hb o e =>
          let z := I'.pin (b, o) (List.mem_append_right _ (List.mem_append_right _ (mem_pinsAt hb e)))
          ⟨z.1, z.2.1⟩
        have hl : (wipe σ (own.map (·.2))).length = σ8.length := by rw [← hw8, wipe_length]
        refine ⟨m', hm, i + 1, H', (I'.unpinned (pins := [])).weak hl (fun j v e => ?_), T.keep _ _ _ st7 fun b hb o e => (pin' b hb o e).1, fun b hb => ?_, w'⟩
        · rw [← hw8] at e
          exact (wipe_some e).1
        · obtain ⟨o, e, _⟩ := T.obj _ _ st7 b hb
          exact (pin' b hb o e).2
      cases b with
      | false =>
        simp only [Bool.false_eq_true, if_false] at q9 ⊢
        exact fin I9 q9
      | true =>
        simp only [if_true] at q9 ⊢
        refine thnF (pe _ s9 σ8 H9 _ I9 q9) fun z s10 ⟨yv, H10, I10, r10, acc, hD10, hz10, nx⟩ => ?_
        exact app_ok (X := X.blk s3 H3 scope ce fp) I10 hD10 hz10 r10 fun s11 I11 => fin I11 nx
  exact codeAny_compStart_list loop (T.self X.A 0 _ _ _ st4 loop)
/-- as a value -/
theorem pe_lc {elt tg iter : Expr} {ifs : List Expr} {scope : Scope} {own : List (Str × Nat)} {pos : Pos} {wi : TI} {g : TG} {tt : TT} {te : TE} (hc : X.calm = true) (hN : X.N.Nodup) (hi : PI X tg iter wi) (ok : BlkOk X.N X.env.scope scope own)
    (hg : ∀ (s : Shared) (H : Hp) (C : Addr) (cl : List (Str × Addr)) (fp : List Addr), PG (X.blk s H scope (compEnvC scope cl C X.env) fp) tg g) (ht : ∀ (s : Shared) (H : Hp) (C : Addr) (cl : List (Str × Addr)) (fp : List Addr), PTs (X.blk s H scope (compEnvC scope cl C X.env) fp) ifs tt)
    (he : ∀ (s : Shared) (H : Hp) (C : Addr) (cl : List (Str × Addr)) (fp : List Addr), PE (X.blk s H scope (compEnvC scope cl C X.env) fp) elt te) (hs : ∀ x, foldedSetIterable iter X.env x = pure x := by intro _; rfl) :
    PE X (.ListComp elt [⟨tg, iter, ifs, 0⟩] scope pos) (tLc wi g tt te (own.map (·.2))) := by
  intro pins s σ H Q I h
  rw [eval_ListComp]
  refine lc_core hc hN I hi ok hg ht he hs h fun D C s' m H' I' q hn f => ⟨m, hn, fun h'' sb => ?_⟩
  obtain ⟨f0, f1, f2, f3, f4, f5⟩ := f
  exact ⟨.ref D, H', I'.turned (t' := s'.toks) (fun b o hb e => (sb.2 b hb).trans e) f0 f1 f3 f4 f5, rfl, q⟩
/-- name = [..] on one line, the name a local -/
theorem ps_setLc {i : Nat} {y : Str} {py : Pos} {elt tg iter : Expr} {ifs : List Expr} {scope : Scope} {own : List (Str × Nat)} {pos spos : Pos} {wi : TI} {g : TG} {tt : TT} {te : TE} (hc : X.calm = true) (hN : X.N.Nodup) (hy : X.N[i]? = some y) (hyl : X.env.scope.names.lookup y = some .local)
    (hsw : swapsWith (.ListComp elt [⟨tg, iter, ifs, 0⟩] scope pos) (some (.Name y py)) spos.line X.env = pure true) (hi : PI X tg iter wi) (ok : BlkOk X.N X.env.scope scope own)
    (hg : ∀ (s : Shared) (H : Hp) (C : Addr) (cl : List (Str × Addr)) (fp : List Addr), PG (X.blk s H scope (compEnvC scope cl C X.env) fp) tg g) (ht : ∀ (s : Shared) (H : Hp) (C : Addr) (cl : List (Str × Addr)) (fp : List Addr), PTs (X.blk s H scope (compEnvC scope cl C X.env) fp) ifs tt)
    (he : ∀ (s : Shared) (H : Hp) (C : Addr) (cl : List (Str × Addr)) (fp : List Addr), PE (X.blk s H scope (compEnvC scope cl C X.env) fp) elt te) (hs : ∀ x, foldedSetIterable iter X.env x = pure x := by intro _; rfl) :
    PS X (.Assign [.Name y py] (.ListComp elt [⟨tg, iter, ifs, 0⟩] scope pos) spos) (tAsg (tLc wi g tt te (own.map (·.2))) (gName i)) := by
  intro pins s σ H D I h
  rw [exec_Assign_Name_used _ _ _ _ hsw]
  refine wpAny_bind (wpAny_standAt (wpAny_bind ?_))
  show wpAny _ X.A (do let _ ← comprehension (.ListComp elt [⟨tg, iter, ifs, 0⟩] scope pos) scope X.env (firstIterPos [⟨tg, iter, ifs, 0⟩] pos) (newList []) false (eval iter X.env) (some (assign (.Name y py) X.env))) _ _ s
  have h : tLc wi g tt te (own.map (·.2)) σ H (fun x H1 => gName i x σ H1 D.nx) := h
  refine wpAny_bind (thn (lc_core (Qf := fun _ s' => SP X pins D .next s') hc hN I hi ok hg ht he hs h fun L C s' m H' I' q hn f => ?_) fun _ s' hq => wpAny_pure (wpAny_pure hq))
  show wpAny _ _ (assign (.Name y py) X.env (.ref L)) _ _ _
  refine wpAny_assign_Name (store_ok2 (v := V.ref L) I' hN hy (.inl hyl) rfl (fun s2 I2 ⟨a, sb, ha⟩ => ?_) (.inr hyl))
  obtain ⟨f0, f1, f2, f3, f4, f5⟩ := f
  have haC : C ≠ a := by
    rcases ha with z | z
    · rw [z]; exact f1
    · exact fun e => f4 y a z e.symm
  refine ⟨m, hn.sameBut sb haC, fun h3 sb3 => ?_⟩
  exact ⟨_, H', I2.turned (t' := s2.toks) (fun b o hb e => (sb3.2 b hb).trans e) f0 f1 f3 f4 f5, q⟩
theorem sw_true {elt : Expr} {gs : List Comprehension} {scope : Scope} {pos py : Pos} {y : Str} {l : Nat} {env : Env} (hk : env.scope.kind = .function) (hy : env.scope.names.lookup y = some .local) (hl : (py.line == pos.line) = true)
    (ha : (scope.names.any fun (n, k) => n == y && (k == .local || k == .cell)) = false) : swapsWith (.ListComp elt gs scope pos) (some (.Name y py)) l env = pure true := by
  have ky : env.kindOf y = some .local := hy
  have hb : env.blockKind = .function := by unfold Env.blockKind; rw [hk]; rfl
  unfold swapsWith
  simp only [hb, ky, ha, Expr.pos, hl]
  rfl
end

/-! ### the forms one uses -/
def blkC (N : List Str) (sc scope : Scope) (own : List (Str × Nat)) : Bool :=
  (match scope.kind with | .function => true | _ => false) && (scope.names.all fun y => decide (scope.names.lookup y.1 = some y.2)) && (own.all fun p => decide (N[p.2]? = some p.1)) &&
    (scope.names.all fun y => match y.2 with
      | .free => (match sc.names.lookup y.1 with | some .cell => true | some .free => true | _ => false)
      | .local => decide (y.1 ∈ own.map (·.1)) || decide (y.1 ∉ N)
      | .cell => decide (y.1 ∈ own.map (·.1)) || decide (y.1 ∉ N)
      | _ => true)
theorem blkOk_by {N : List Str} {sc scope : Scope} {own : List (Str × Nat)} (h : blkC N sc scope own = true) : BlkOk N sc scope own := by
  unfold blkC at h
  simp only [Bool.and_eq_true, List.all_eq_true, decide_eq_true_eq] at h
  obtain ⟨⟨⟨h1, h2⟩, h3⟩, h4⟩ := h
  refine ⟨?_, h2, h3, fun y hy e => ?_, fun y hy e => ?_⟩
  · split at h1
    · assumption
    · cases h1
  · have q := h4 y hy
    simp only [e] at q
    split at q <;> first | exact .inl (by assumption) | exact .inr (by assumption) | cases q
  · have q := h4 y hy
    rcases e with e | e <;> (simp only [e, Bool.or_eq_true, decide_eq_true_eq] at q; exact q)
end L2

namespace L2
open PySem PySem.Spec PyProof.Rows


section
variable {prog : Program} {w : World} {A : Around} {R : Result → Shared → Prop} {s : Shared} {elt t0 i0 t1 i1 : Expr} {ifs0 ifs1 : List Expr} {scope : Scope} {pos : Pos} {it acc : Value} {env : Env}
end

section
variable {X : Cx}
end
end L2

namespace L2
open PySem PySem.Spec PyProof.Rows

/-! ### lists of pairs as tables -/
section
variable {κ : Type} [DecidableEq κ]
def valV (kvs : List (κ × V)) (k : κ) : Option V := (kvs.find? fun kv => decide (kv.1 = k)).map (·.2)
/-- in its place, or at the end -/
def putK (kvs : List (κ × V)) (k : κ) (v : V) : List (κ × V) :=
  if (kvs.any fun kv => decide (kv.1 = k)) = true then kvs.map (fun kv => if kv.1 = k then (kv.1, v) else kv) else kvs ++ [(k, v)]

theorem valV_pos {p : κ × V} {r : List (κ × V)} {k : κ} (e : p.1 = k) : valV (p :: r) k = some p.2 := by simp [valV, List.find?_cons, e]
theorem valV_neg {p : κ × V} {r : List (κ × V)} {k : κ} (e : ¬ p.1 = k) : valV (p :: r) k = valV r k := by simp [valV, List.find?_cons, e]
theorem valV_any (k : κ) : ∀ kvs : List (κ × V), (kvs.any fun kv => decide (kv.1 = k)) = (valV kvs k).isSome
  | [] => rfl
  | p :: r => by
    rw [List.any_cons]
    by_cases e : p.1 = k
    · simp only [valV_pos e, decide_eq_true e, Bool.true_or, Option.isSome_some]
    · rw [valV_neg e, decide_eq_false e, Bool.false_or]; exact valV_any k r
theorem length_putK (kvs : List (κ × V)) (k : κ) (v : V) : (putK kvs k v).length ≤ kvs.length + 1 := by
  unfold putK
  split
  · rw [List.length_map]; omega
  · rw [List.length_append, List.length_cons, List.length_nil]; omega

theorem RelO.isSome_eq {o : Option V} {u : Option Value} (r : RelO o u) : o.isSome = u.isSome := by
  cases o with
  | none => cases u with
    | none => rfl
    | some _ => exact (show False from r).elim
  | some _ => cases u with
    | none => exact (show False from r).elim
    | some _ => rfl

/-- raw tables of the same keys -/
theorem KV.val {kvs : List (κ × V)} {vs : List (κ × Value)} (r : KV kvs vs) (k : κ) : RelO (valV kvs k) (valueAt vs k) := by
  unfold KV at r
  induction r with
  | nil => exact True.intro
  | @cons p q ps qs h t ih =>
    obtain ⟨h1, h2⟩ := h
    by_cases e : p.1 = k
    · have e' : q.1 = k := h1.symm.trans e
      have b : valueAt (q :: qs) k = some q.2 := by simp [valueAt, List.find?_cons, e']
      rw [valV_pos e, b]; exact h2
    · have e' : ¬ q.1 = k := fun z => e (h1.trans z)
      have b : valueAt (q :: qs) k = valueAt qs k := by simp [valueAt, List.find?_cons, e']
      rw [valV_neg e, b]; exact ih
theorem KV.any {kvs : List (κ × V)} {vs : List (κ × Value)} (r : KV kvs vs) (k : κ) : (kvs.any fun kv => decide (kv.1 = k)) = vs.any fun kv => decide (kv.1 = k) := by
  unfold KV at r
  induction r with
  | nil => rfl
  | cons h t ih => rw [List.any_cons, List.any_cons, ih, h.1]
theorem KV.repl {kvs : List (κ × V)} {vs : List (κ × Value)} (r : KV kvs vs) (k : κ) {y : V} {u : Value} (ry : RelV y u) :
    KV (kvs.map fun kv => if kv.1 = k then (kv.1, y) else kv) (vs.map fun kv => if kv.1 = k then (kv.1, u) else kv) := by
  unfold KV at r ⊢
  induction r with
  | nil => exact .nil
  | @cons p q ps qs h t ih =>
    rw [List.map_cons, List.map_cons]
    refine .cons ?_ ih
    obtain ⟨h1, h2⟩ := h
    by_cases e : p.1 = k
    · rw [if_pos e, if_pos (h1.symm.trans e)]; exact ⟨h1, ry⟩
    · rw [if_neg e, if_neg (fun z => e (h1.trans z))]; exact ⟨h1, h2⟩
theorem KV.put {kvs : List (κ × V)} {vs : List (κ × Value)} (r : KV kvs vs) (k : κ) {y : V} {u : Value} (ry : RelV y u) : KV (putK kvs k y) (stored vs k u) := by
  unfold putK stored
  rw [r.any k]
  by_cases e : (vs.any fun kv => decide (kv.1 = k)) = true
  · rw [if_pos e, if_pos e]; exact r.repl k ry
  · rw [if_neg e, if_neg e]; exact Paired.snoc r ⟨rfl, ry⟩
theorem KV.length {kvs : List (κ × V)} {vs : List (κ × Value)} (r : KV kvs vs) : kvs.length = vs.length := Paired.length r
end


/-! ### a tracked dict, its keys ints and texts or tuples of these -/
theorem kV_is {P : Program} {w : World} {k : Key} {u : Value} (r : RelV (kV k) u) : (mixKind P w).is k u = true := by
  cases k with
  | inl i => obtain ⟨t, e⟩ := (show ∃ t, u = Value.int i t from r); subst e; exact mixKind_int P w i t
  | inr x => obtain ⟨t, e⟩ := (show ∃ t, u = Value.str x t from r); subst e; exact mixKind_str P w x t
theorem items_are {P : Program} {w : World} : ∀ {ks : List Key} {us : List Value}, Vals (ks.map kV) us → ItemsAre (mixKind P w) ks us
  | [], _, r => by rw [List.map_nil] at r; cases r; exact .nil
  | k :: ks, _, r => by
    rw [List.map_cons] at r
    cases r with
    | cons h t => exact .cons (kV_is h) (items_are t)

/-- raw entries of a dict with tuple keys -/
abbrev KT (H : Hp) : List (List Key × V) → List (List Key × Addr × Value) → Prop := Paired fun p q => p.1 = q.1 ∧ H q.2.1 = some (.tup (p.1.map kV)) ∧ RelV p.2 q.2.2
theorem KT.val {H : Hp} {kvs : List (List Key × V)} {xs : List (List Key × Addr × Value)} (r : KT H kvs xs) (k : List Key) : RelO (valV kvs k) ((atKey xs k).map (·.2)) := by
  induction r with
  | nil => exact True.intro
  | @cons p q ps qs h t ih =>
    obtain ⟨h1, _, h2⟩ := h
    by_cases e : p.1 = k
    · have e' : q.1 = k := h1.symm.trans e
      have b : atKey (q :: qs) k = some q.2 := by simp [atKey, List.find?_cons, e']
      rw [valV_pos e, b]; exact h2
    · have e' : ¬ q.1 = k := fun z => e (h1.trans z)
      have b : atKey (q :: qs) k = atKey qs k := by simp [atKey, List.find?_cons, e']
      rw [valV_neg e, b]; exact ih
theorem KT.repl {H : Hp} {kvs : List (List Key × V)} {xs : List (List Key × Addr × Value)} (r : KT H kvs xs) (k : List Key) {y : V} {u : Value} (ry : RelV y u) :
    KT H (kvs.map fun kv => if kv.1 = k then (kv.1, y) else kv) (xs.map (putAt k u)) := by
  induction r with
  | nil => exact .nil
  | @cons p q ps qs h t ih =>
    rw [List.map_cons, List.map_cons]
    refine .cons ?_ ih
    obtain ⟨h1, h2, h3⟩ := h
    unfold putAt
    by_cases e : p.1 = k
    · rw [if_pos e, if_pos (h1.symm.trans e)]; exact ⟨h1, h2, ry⟩
    · rw [if_neg e, if_neg (fun z => e (h1.trans z))]; exact ⟨h1, h2, h3⟩
theorem KT.put {H : Hp} {kvs : List (List Key × V)} {xs : List (List Key × Addr × Value)} (r : KT H kvs xs) (k : List Key) {b : Addr} {y : V} {u : Value} (hb : H b = some (.tup (k.map kV))) (ry : RelV y u) :
    KT H (putK kvs k y) (storedH xs k b u) := by
  have e : (kvs.any fun kv => decide (kv.1 = k)) = (atKey xs k).isSome := by
    rw [valV_any, (r.val k).isSome_eq, Option.isSome_map]
  unfold putK storedH
  rw [e]
  by_cases q : (atKey xs k).isSome = true
  · rw [if_pos q, if_pos q]; exact r.repl k ry
  · rw [if_neg q, if_neg q]; exact Paired.snoc r ⟨rfl, hb, ry⟩
theorem KT.keeps {H H' : Hp} {kvs : List (List Key × V)} {xs : List (List Key × Addr × Value)} (r : KT H kvs xs) (ht : ∀ b ys, H b = some (.tup ys) → H' b = some (.tup ys)) : KT H' kvs xs :=
  Paired.mapP r fun _ _ z => ⟨z.1, ht _ _ z.2.1, z.2.2⟩

section
variable {P : Program} {w : World} {H : Hp} {h : Heap} {a : Addr}
theorem rd_of {u : HO} (ok : HOk P w H h) (e : Rd H a u) : ObjOk P w H h a u := e.ok ok
theorem dk_rd {kvs : List (Key × V)} (ok : HOk P w H h) (e : Rd H a (.dK kvs)) : kvs.length ≤ sizeLine ∧ (a == sysModules) = false ∧ ∃ vs, KV kvs vs ∧ h.DictOf (mixKind P w) a vs :=
  show ObjOk P w H h a (.dK kvs) from rd_of ok e
theorem dk_of {kvs : List (Key × V)} (ok : HOk P w H h) (e : H a = some (.dK kvs)) : kvs.length ≤ sizeLine ∧ (a == sysModules) = false ∧ ∃ vs, KV kvs vs ∧ h.DictOf (mixKind P w) a vs := dk_rd ok (.inl e)
/-- a tracked tuple of ints and texts is a key -/
theorem key_of {ks : List Key} (ok : HOk P w H h) (e : H a = some (.tup (ks.map kV))) : (tupleKind (mixKind P w)).is h ks a := by
  obtain ⟨_, its, r, o, h1, h2, n, h3⟩ := (show ObjOk P w H h a (.tup (ks.map kV)) from ok a _ e)
  exact ⟨o, its.toArray, n, h1, h2, h3, by simpa using items_are r⟩
theorem dt_rd {kvs : List (List Key × V)} (ok : HOk P w H h) (e : Rd H a (.dT kvs)) : kvs.length ≤ sizeLine ∧ (a == sysModules) = false ∧
    ∃ xs, KT H kvs xs ∧ h.DictOfH (tupleKind (mixKind P w)) a xs := by
  obtain ⟨z, y, xs, r, o, es, ep, h1, h2, h3, h4, h5⟩ := (show ObjOk P w H h a (.dT kvs) from rd_of ok e)
  refine ⟨z, y, xs, r, o, es, ep, h1, h2, h3, h4, fun x hx => ?_, h5⟩
  have all : ∀ {l : List (List Key × V)} {m : List (List Key × Addr × Value)}, KT H l m → ∀ x ∈ m, (tupleKind (mixKind P w)).is h x.1 x.2.1 := by
    intro l m q
    induction q with
    | nil => intro x hx; exact nomatch hx
    | @cons p q ps qs hq t ih =>
      intro x hx
      rcases List.mem_cons.mp hx with e | hx
      · subst e
        exact key_of ok (by rw [← hq.1]; exact hq.2.1)
      · exact ih x hx
  exact all r x hx
theorem dt_of {kvs : List (List Key × V)} (ok : HOk P w H h) (e : H a = some (.dT kvs)) : kvs.length ≤ sizeLine ∧ (a == sysModules) = false ∧
    ∃ xs, KT H kvs xs ∧ h.DictOfH (tupleKind (mixKind P w)) a xs := dt_rd ok (.inl e)
end

/-- what the dict at a holds at the key y -/
def DGet (H : Hp) (a : Addr) (y : V) (r : Option V) : Prop :=
  (∃ kvs k, Rd H a (.dK kvs) ∧ y = kV k ∧ r = valV kvs k) ∨ ∃ kvs k b, Rd H a (.dT kvs) ∧ y = .ref b ∧ H b = some (.tup (k.map kV)) ∧ r = valV kvs k
/-- the heap behind a[y] = v -/
def DPut (H : Hp) (a : Addr) (y v : V) (H' : Hp) : Prop :=
  (∃ kvs k, H a = some (.dK kvs) ∧ y = kV k ∧ kvs.length < sizeLine ∧ H' = upd H a (.dK (putK kvs k v))) ∨
  ∃ kvs k b, H a = some (.dT kvs) ∧ y = .ref b ∧ H b = some (.tup (k.map kV)) ∧ kvs.length < sizeLine ∧ H' = upd H a (.dT (putK kvs k v))
theorem DGet.k {H : Hp} {a : Addr} {kvs : List (Key × V)} {k : Key} (e : H a = some (.dK kvs)) : DGet H a (kV k) (valV kvs k) := .inl ⟨kvs, k, .inl e, rfl, rfl⟩
theorem DGet.t {H : Hp} {a b : Addr} {kvs : List (List Key × V)} {k : List Key} (e : H a = some (.dT kvs)) (eb : H b = some (.tup (k.map kV))) : DGet H a (.ref b) (valV kvs k) := .inr ⟨kvs, k, b, .inl e, rfl, eb, rfl⟩
theorem DPut.k {H : Hp} {a : Addr} {kvs : List (Key × V)} {k : Key} {v : V} (e : H a = some (.dK kvs)) (hl : kvs.length < sizeLine) : DPut H a (kV k) v (upd H a (.dK (putK kvs k v))) := .inl ⟨kvs, k, e, rfl, hl, rfl⟩
theorem DPut.t {H : Hp} {a b : Addr} {kvs : List (List Key × V)} {k : List Key} {v : V} (e : H a = some (.dT kvs)) (eb : H b = some (.tup (k.map kV))) (hl : kvs.length < sizeLine) :
    DPut H a (.ref b) v (upd H a (.dT (putK kvs k v))) := .inr ⟨kvs, k, b, e, rfl, eb, hl, rfl⟩


section
variable {X : Cx} {pins : List (Addr × Obj)} {σ : St} {H : Hp} {s : Shared} {a : Addr} {y v : V} {u r : Value} {o : Option V} {A : Around} {E : Value → Shared → Prop}

theorem Inv.big (I : Inv X pins σ H s) : sysModules < s.heap.objs.size := by
  have h : mainGlobals < s.heap.objs.size := (I.mod.glob.keeps I.bk).lt
  exact Nat.lt_trans (by decide) h

/-- d[y], there -/
theorem d_getItem {Q : Value → Shared → Prop} (hu : A.units + 1 < cLine) (I : Inv X pins σ H s) (g : DGet H a y (some v)) (ry : RelV y u) (h : ∀ w' s', Inv X pins σ H s' → RelV v w' → Q w' s') :
    wpAny (model X.prog X.w) A (getItem (.ref a) u) Q E s := by
  rcases g with ⟨kvs, k, e, ey, l⟩ | ⟨kvs, k, b, e, ey, eb, l⟩
  · subst ey
    obtain ⟨z, hd, vs, rel, dd⟩ := dk_rd I.hok e
    obtain ⟨w', hw, rw'⟩ := RelO.some_of (v := v) (o := valueAt vs k) (by rw [l]; exact rel.val k)
    exact wpAny_getItem_of (kV_is ry) dd.mapOf hw (h w' _ (I.tok _) rw')
  · subst ey
    cases (show u = Value.ref b from ry)
    obtain ⟨z, hd, xs, rel, dd⟩ := dt_rd I.hok e
    obtain ⟨w', hw, rw'⟩ := RelO.some_of (v := v) (o := (atKey xs k).map (·.2)) (by rw [l]; exact rel.val k)
    obtain ⟨p, hp, hp2⟩ := Option.map_eq_some_iff.mp hw
    refine wpAny_getItem_heap (tupleKind_room_in1 hu) (key_of I.hok eb) dd hp ?_
    rw [hp2]
    exact h w' _ (I.tok _) rw'
/-- y in d -/
theorem d_in {Q : Value → Shared → Prop} (hu : A.units + 1 < cLine) (I : Inv X pins σ H s) (g : DGet H a y o) (ry : RelV y u) (h : ∀ s', Inv X pins σ H s' → Q (.bool o.isSome) s') :
    wpAny (model X.prog X.w) A (compareOp .In u (.ref a)) Q E s := by
  rcases g with ⟨kvs, k, e, ey, l⟩ | ⟨kvs, k, b, e, ey, eb, l⟩
  · subst ey
    obtain ⟨z, hd, vs, rel, dd⟩ := dk_rd I.hok e
    refine wpAny_in_of (kV_is ry) hd dd.mapOf ?_
    rw [← (rel.val k).isSome_eq, ← l]
    exact h _ (I.tok _)
  · subst ey
    cases (show u = Value.ref b from ry)
    obtain ⟨z, hd, xs, rel, dd⟩ := dt_rd I.hok e
    refine wpAny_in_heap (tupleKind_room_in1 hu) (key_of I.hok eb) hd dd ?_
    have q := (rel.val k).isSome_eq
    rw [Option.isSome_map] at q
    rw [← q, ← l]
    exact h _ (I.tok _)
theorem d_notIn {Q : Value → Shared → Prop} (hu : A.units + 1 < cLine) (I : Inv X pins σ H s) (g : DGet H a y o) (ry : RelV y u) (h : ∀ s', Inv X pins σ H s' → Q (.bool (!o.isSome)) s') :
    wpAny (model X.prog X.w) A (compareOp .NotIn u (.ref a)) Q E s := by
  rcases g with ⟨kvs, k, e, ey, l⟩ | ⟨kvs, k, b, e, ey, eb, l⟩
  · subst ey
    obtain ⟨z, hd, vs, rel, dd⟩ := dk_rd I.hok e
    refine wpAny_notIn_of (kV_is ry) hd dd.mapOf ?_
    rw [← (rel.val k).isSome_eq, ← l]
    exact h _ (I.tok _)
  · subst ey
    cases (show u = Value.ref b from ry)
    obtain ⟨z, hd, xs, rel, dd⟩ := dt_rd I.hok e
    refine wpAny_notIn_heap (tupleKind_room_in1 hu) (key_of I.hok eb) hd dd ?_
    have q := (rel.val k).isSome_eq
    rw [Option.isSome_map] at q
    rw [← q, ← l]
    exact h _ (I.tok _)
/-- a dict's object is replaced -/
theorem d_write {h' : Heap} {t' : Nat} {ob : HO} (I : Inv X pins σ H s) (mu : Mut (H a)) (hs : Heap.SameBut a s.heap h') (he : ∃ q, h'.get? a = some q) (new : ObjOk X.prog X.w (upd H a ob) h' a ob) :
    Inv X pins σ (upd H a ob) { s with heap := h', toks := t' } :=
  I.write (x := a) (e := a) mu (.inl rfl) (fun b q hb z => (hs.2 b hb).trans z) he new
theorem dk_new {P : Program} {w : World} {H' : Hp} {h' : Heap} {kvs : List (Key × V)} {vs : List (Key × Value)} (z : kvs.length ≤ sizeLine) (hd : (a == sysModules) = false) (rel : KV kvs vs) (dd : h'.DictOf (mixKind P w) a vs) :
    ObjOk P w H' h' a (.dK kvs) := ⟨z, hd, vs, rel, dd⟩
/-- d[y] = v -/
theorem d_setItem {H' : Hp} {Q : Unit → Shared → Prop} (hu : A.units + 1 < cLine) (I : Inv X pins σ H s) (g : DPut H a y v H') (ry : RelV y u) (rv : RelV v r) (h : ∀ s', Inv X pins σ H' s' → Q () s') :
    wpAny (model X.prog X.w) A (setItem (.ref a) u r) Q E s := by
  rcases g with ⟨kvs, k, e, ey, l, eH⟩ | ⟨kvs, k, b, e, ey, eb, l, eH⟩
  · subst ey eH
    obtain ⟨z, hd, vs, rel, dd⟩ := dk_of I.hok e
    have hz : vs.length ≤ sizeLine := by rw [← rel.length]; exact z
    have hl : (putK kvs k v).length ≤ sizeLine := by have := length_putK kvs k v; omega
    refine wpAny_setItem_pairs (hsz := hz) (kV_is ry) dd fun h' dd' hs => h _ ?_
    have he : ∃ q, h'.get? a = some q := let ⟨q, _, _, hq, _⟩ := dd'; ⟨q, hq⟩
    exact d_write I (by rw [e]; exact True.intro) hs he (dk_new hl hd (rel.put k rv) dd')
  · subst ey eH
    cases (show u = Value.ref b from ry)
    obtain ⟨z, hd, xs, rel, dd⟩ := dt_of I.hok e
    have hz : xs.length ≤ sizeLine := by rw [← Paired.length rel]; exact z
    have hl : (putK kvs k v).length ≤ sizeLine := by have := length_putK kvs k v; omega
    refine wpAny_setItem_heap (hsz := hz) (tupleKind_room_in1 hu) (key_of I.hok eb) dd fun h' dd' hs => h _ ?_
    obtain ⟨q, es, ep, hq, h2, h3, h4, _, h5⟩ := dd'
    refine d_write I (by rw [e]; exact True.intro) hs ⟨q, hq⟩ ⟨hl, hd, _, (rel.put k eb rv).keeps fun c ys ec => ?_, q, es, ep, hq, h2, h3, h4, h5⟩
    rw [upd_ne (ne_of ec e (fun z => nomatch z))]
    exact ec
end

section
variable {X : Cx} {pins : List (Addr × Obj)} {σ : St} {H : Hp} {s : Shared} {a : Addr} {kvs : List (Key × V)} {k : Key} {u : Value} {A : Around} {E : Value → Shared → Prop}
/-- len(d) -/
theorem d_len {Q : Value → Shared → Prop} (I : Inv X pins σ H s) (e : Rd H a (.dK kvs)) (h : ∀ t s', Inv X pins σ H s' → Q (.int kvs.length t) s') : wpAny (model X.prog X.w) A (call (.builtin "len") [.ref a]) Q E s := by
  obtain ⟨z, hd, vs, rel, dd⟩ := dk_rd I.hok e
  refine call_len_dict hd dd (by rw [← rel.length]; rw [sizeLine_eq] at z; omega) ?_
  rw [← rel.length]
  exact h _ _ (I.tok _)
end


/-! ### readings and rules -/
/-- the element of a subscription, not a slice -/
def NoSl (i : Expr) : Prop := ∀ ov iv, subscripted i false ov iv = operate [ov, iv] (getItem ov iv)
theorem subD_of {prog : Program} {w : World} {A : Around} {E : Value → Shared → Prop} {s : Shared} {env : Env} {value slice : Expr} {pos : Pos} {T id : String} {Q : Value → Shared → Prop}
    (hl : typeLookup (.type T) "__getitem__" = pure (some (.builtin id))) (hs : NoSl slice)
    (h : wpAny (model prog w) A (eval value env) (fun o s₁ => wpAny (model prog w) A (eval slice env) (fun i s₂ => s₂.TypeIs o T ∧ wpAny (model prog w) A (getItem o i) Q E s₂) E s₁) E s) :
    wpAny (model prog w) A (eval (.Subscript value slice pos) env) Q E s := by
  refine Subscript_ (wpAny_mono h (fun o s₁ h₁ => wpAny_mono h₁ (fun i s₂ h₂ => ?_) fun _ _ x => x) fun _ _ x => x)
  obtain ⟨hT, h₂⟩ := h₂
  unfold subscriptTail
  refine wpAny_bind ?_
  rw [getitemInPython_of_ne hT.not_modules]
  refine wpAny_bind (wpAny_specialOf hT hl ?_)
  have fin : wpAny (model prog w) A (subscripted slice false o i) (fun r s₃ => wpAny (model prog w) A (letTemporaryGo value o r >>= fun _ => pure r) Q E s₃) E s₂ := by
    rw [hs o i]
    exact wpAny_operating (wpAny_mono h₂ (fun r s₃ h₃ => wpAny_bind (wpAny_letTemporaryGo (wpAny_pure h₃))) fun _ _ x => x)
  first
    | exact wpAny_pure (wpAny_bind fin)
    | exact wpAny_bind (wpAny_pure (wpAny_bind fin))
    | exact wpAny_bind fin

theorem dict_typeIs {X : Cx} {pins : List (Addr × Obj)} {σ : St} {H : Hp} {s : Shared} {a : Addr} {y : V} {o : Option V} (I : Inv X pins σ H s) (g : DGet H a y o) : s.TypeIs (.ref a) "dict" := by
  rcases g with ⟨kvs, k, e, _, _⟩ | ⟨kvs, k, b, e, _, _, _⟩
  · obtain ⟨_, _, vs, _, dd⟩ := dk_rd I.hok e
    exact dd.typeIs
  · obtain ⟨_, _, xs, _, dd⟩ := dt_rd I.hok e
    exact dd.typeIs

/-- d[y] -/
def tDGet (td ty : TE) : TE := fun σ H Q => td σ H fun x H1 => ty σ H1 fun y H2 => ∃ a v, x = .ref a ∧ DGet H2 a y (some v) ∧ Q v H2
/-- y in d, y not in d -/
def tDIn (ty td : TE) : TE := fun σ H Q => ty σ H fun y H1 => td σ H1 fun x H2 => ∃ a o, x = .ref a ∧ DGet H2 a y o ∧ Q (.bl o.isSome) H2
def tDNotIn (ty td : TE) : TE := fun σ H Q => ty σ H fun y H1 => td σ H1 fun x H2 => ∃ a o, x = .ref a ∧ DGet H2 a y o ∧ Q (.bl (!o.isSome)) H2
/-- d[y] = v -/
def sDPut (td ty tv : TE) : TS := fun D σ H => tv σ H fun v H1 => td σ H1 fun x H2 => ty σ H2 fun y H3 => ∃ a H4, x = .ref a ∧ DPut H3 a y v H4 ∧ D.nx σ H4

section
variable {X : Cx} {o i e value : Expr} {pos pos' tpos : Pos} {td ty tv : TE}
theorem pe_dget (hu : X.A.units + 1 < cLine) (ho : PE X o td) (hi : PE X i ty) (hs : NoSl i) : PE X (.Subscript o i pos) (tDGet td ty) := by
  intro pins s σ H Q I h
  refine subD_of PySem.F.slot_dict_getitem.lookup hs (thn (ho pins s σ H _ I h) fun u s1 ⟨x, H1, I1, rx, q1⟩ => thn (hi pins s1 σ H1 _ I1 q1) fun iv s2 ⟨y, H2, I2, ry, a, v, ex, g, q2⟩ => ?_)
  subst ex
  obtain rfl : u = Value.ref a := rx
  exact ⟨dict_typeIs I2 g, d_getItem hu I2 g ry fun w' s3 I3 rw' => ⟨v, H2, I3, rw', q2⟩⟩
theorem pc_din (hu : X.A.units + 1 < cLine) (hi : PE X i ty) (ho : PE X o td) : PC X .In i o (tDIn ty td) := by
  intro pins s σ H Q I h
  refine thn (hi pins s σ H _ I h) fun iv s1 ⟨y, H1, I1, ry, q1⟩ => thn (ho pins s1 σ H1 _ I1 q1) fun u s2 ⟨x, H2, I2, rx, a, ov, ex, g, q2⟩ => ?_
  subst ex
  obtain rfl : u = Value.ref a := rx
  exact d_in hu I2 g ry fun s3 I3 => ⟨.bl ov.isSome, H2, I3, rfl, q2⟩
theorem pc_dnotin (hu : X.A.units + 1 < cLine) (hi : PE X i ty) (ho : PE X o td) : PC X .NotIn i o (tDNotIn ty td) := by
  intro pins s σ H Q I h
  refine thn (hi pins s σ H _ I h) fun iv s1 ⟨y, H1, I1, ry, q1⟩ => thn (ho pins s1 σ H1 _ I1 q1) fun u s2 ⟨x, H2, I2, rx, a, ov, ex, g, q2⟩ => ?_
  subst ex
  obtain rfl : u = Value.ref a := rx
  exact d_notIn hu I2 g ry fun s3 I3 => ⟨.bl (!ov.isSome), H2, I3, rfl, q2⟩
theorem ps_dput (hu : X.A.units + 1 < cLine) (ho : PE X o td) (hi : PE X i ty) (hv : PE X value tv) (hs : swapsWith value (some (.Subscript o i pos')) pos.line X.env = pure false) :
    PS X (.Assign [.Subscript o i pos'] value pos) (sDPut td ty tv) := by
  intro pins s σ H D I h
  refine wpAny_Assign_Subscript (thn (hv pins s σ H _ I h) fun r s1 ⟨v, H1, I1, rv, q1⟩ => thn (ho pins s1 σ H1 _ I1 q1) fun u s2 ⟨x, H2, I2, rx, q2⟩ => thn (hi pins s2 σ H2 _ I2 q2) fun iv s3 ⟨y, H3, I3, ry, a, H4, ex, g, q3⟩ => ?_) hs
  subst ex
  obtain rfl : u = Value.ref a := rx
  exact d_setItem hu I3 g ry rv fun s4 I4 => ⟨σ, H4, I4, q3⟩
end


/-! ### displays -/
theorem dk_empty {P : Program} {w : World} {H : Hp} (h : Heap) (hb : sysModules < h.objs.size) : ObjOk P w H (h.push { cls := .type "dict", data := .dict #[] }) h.objs.size (.dK []) :=
  ⟨Nat.zero_le _, beq_eq_false_iff_ne.mpr (Ne.symm (Nat.ne_of_lt hb)), [], .nil, Heap.DictOf.new h⟩
theorem dt_empty {P : Program} {w : World} {H : Hp} (h : Heap) (hb : sysModules < h.objs.size) : ObjOk P w H (h.push { cls := .type "dict", data := .dict #[] }) h.objs.size (.dT []) :=
  ⟨Nat.zero_le _, beq_eq_false_iff_ne.mpr (Ne.symm (Nat.ne_of_lt hb)), [], .nil, _, #[], 0, Heap.get?_push_size _ rfl, ⟨rfl, rfl, rfl⟩, rfl, rfl, List.nodup_nil⟩
/-- {}, to be a dict of the kind that is wanted -/
def tDNewK : TE := fun _ H Q => ∀ p, H p = none → Q (.ref p) (upd H p (.dK []))
def tDNewT : TE := fun _ H Q => ∀ p, H p = none → Q (.ref p) (upd H p (.dT []))
section
variable {X : Cx} {pos : Pos}
theorem pe_dnewK : PE X (.Dict [] [] pos) tDNewK := fun pins s σ H Q I h =>
  wpAny_Dict_empty ⟨.ref s.heap.objs.size, _, I.laid (a := s.heap.objs.size) (o := .dK []) (t' := s.toks) (fun _ _ q => Heap.get?_push_of_some _ q) (Nat.le_refl _) (dk_empty s.heap I.big), rfl, h _ (I.hok.fresh (Nat.le_refl _))⟩
theorem pe_dnewT : PE X (.Dict [] [] pos) tDNewT := fun pins s σ H Q I h =>
  wpAny_Dict_empty ⟨.ref s.heap.objs.size, _, I.laid (a := s.heap.objs.size) (o := .dT []) (t' := s.toks) (fun _ _ q => Heap.get?_push_of_some _ q) (Nat.le_refl _) (dt_empty s.heap I.big), rfl, h _ (I.hok.fresh (Nat.le_refl _))⟩
end

abbrev VV : List (V × V) → List (Value × Value) → Prop := Paired fun p q => RelV p.1 q.1 ∧ RelV p.2 q.2



/-! ### methods -/
structure M2 (X : Cx) (o : Expr) (m : Str) (apos : Pos) (e f : Expr) (cpos : Pos) : Prop where
  base : attributeBase o m X.env (eval o X.env) = eval o X.env
  few : ((backTo cpos (starEach [e, f] X.env)).all (fun x => !x.1) && (backToKw cpos (keywordEach [] X.env)).all (fun x => x.1.isSome)
    && decide (([e, f] : List Expr).length + ([] : List Keyword).length + (if ([] : List Keyword).isEmpty then 0 else 1) < 30)) = true
  line : (apos.endLine == cpos.line) = true
  trees : backTo cpos (starEach [e, f] X.env) = [(false, eval e X.env), (false, eval f X.env)]


section
variable {X : Cx} {pins : List (Addr × Obj)} {σ : St} {H : Hp} {s : Shared} {a : Addr} {y d : V} {u r : Value} {o : Option V} {A : Around} {E : Value → Shared → Prop}
end

section
variable {X : Cx} {o e f : Expr} {apos cpos : Pos} {td ty tx : TE}
end

/-! ### dict(d): a copy -/
section
variable {X : Cx} {pins : List (Addr × Obj)} {σ : St} {H : Hp} {s : Shared} {a : Addr} {kvs : List (Key × V)} {A : Around} {E : Value → Shared → Prop}
end


section
variable {X : Cx} {pins : List (Addr × Obj)} {σ : St} {H : Hp} {s : Shared} {a : Addr} {y : V} {u : Value} {A : Around} {E : Value → Shared → Prop}
end
end L2

namespace L2
open PySem PySem.Spec PyProof.Rows


section
variable {prog : Program} {w : World} {A : Around} {E : Value → Shared → Prop}


end

section
variable {X : Cx}
end
end L2

namespace L2
open PySem PySem.Spec PyProof.Rows


section
variable {X : Cx} {pins : List (Addr × Obj)} {σ : St} {H : Hp} {s : Shared} {h' : Heap}
/-- several records of ours have turned -/
theorem Inv.turnedL {t' : Nat} {ch : List Addr} (I : Inv X pins σ H s) (k : ∀ b o, b ∉ ch → s.heap.get? b = some o → h'.get? b = some o) (hf : ∀ b ∈ ch, FpOk X pins H b) : Inv X pins σ H { s with heap := h', toks := t' } := by
  have nit : ∀ b u, H b = some u → b ∉ ch := fun b u e z => by
    have q := (hf b z).1
    rw [q] at e; cases e
  refine I.step (g' := s.gens) (d' := s.drawn) (ch := ch) (fun b hb => ⟨(hf b hb).2.2.2.1, (hf b hb).2.1, (hf b hb).2.2.2.2.1, (hf b hb).2.2.2.2.2⟩) (fun b o _ _ hc e _ => k b o hc e) (fun b o _ _ hc e _ => ⟨o.slots, k b o hc e⟩)
    (fun _ _ _ _ n => n) (fun b o hc e => ⟨o, k b o hc e⟩) (fun _ _ e => e) (fun _ _ _ e => e) (fun b ps e => ⟨#[], by rw [e]; simp⟩) (fun m hm => ?_) (fun b u e => ?_) I.bare
  · obtain ⟨o, es, ep, ho, r⟩ := hm
    exact ⟨o, es, ep, k _ o (fun z => (hf _ z).2.1 rfl) ho, r⟩
  · refine (I.hok b u e).stay (fun c v hc q => k c v ?_ q) (fun _ q => q) fun _ _ q => q
    rcases hc with z | z
    · rw [z]; exact nit b u e
    · exact nit c _ z
/-- .. and one new object is laid -/
theorem Inv.turnedNew {t' : Nat} {ch : List Addr} {T : Addr} {ob : HO} (I : Inv X pins σ H s) (k : ∀ b o, b ∉ ch → s.heap.get? b = some o → h'.get? b = some o) (hf : ∀ b ∈ ch, FpOk X pins H b) (hT : s.heap.objs.size ≤ T)
    (new : ObjOk X.prog X.w (upd H T ob) h' T ob) : Inv X pins σ (upd H T ob) { s with heap := h', toks := t' } := by
  have hn : H T = none := I.hok.fresh hT
  have nit : ∀ b u, H b = some u → b ∉ ch := fun b u e z => by
    have q := (hf b z).1
    rw [q] at e; cases e
  refine I.step (g' := s.gens) (d' := s.drawn) (ch := ch) (fun b hb => ⟨(hf b hb).2.2.2.1, (hf b hb).2.1, (hf b hb).2.2.2.2.1, (hf b hb).2.2.2.2.2⟩) (fun b o _ _ hc e _ => k b o hc e) (fun b o _ _ hc e _ => ⟨o.slots, k b o hc e⟩)
    (fun b o _ e n => ?_) (fun b o hc e => ⟨o, k b o hc e⟩) (fun b xs e => ?_) (fun b o u e => ?_) (fun b ps e => ⟨#[], ?_⟩) (fun m hm => ?_) (fun b u e => ?_) I.bare
  · rw [upd_ne (Nat.ne_of_lt (Nat.lt_of_lt_of_le (Heap.lt_size e) hT))]; exact n
  · rw [upd_ne (ne_of_none e hn)]; exact e
  · rw [upd_ne (ne_of_none e hn)]; exact e
  · rw [upd_ne (ne_of_none e hn), e]; simp
  · obtain ⟨o, es, ep, ho, r⟩ := hm
    exact ⟨o, es, ep, k _ o (fun z => (hf _ z).2.1 rfl) ho, r⟩
  · by_cases hb : b = T
    · subst hb
      rw [upd_same] at e
      cases e
      exact new
    · rw [upd_ne hb] at e
      refine (I.hok b u e).stay (fun c v hc q => k c v ?_ q) (fun c q => by rw [upd_ne (ne_of_none q hn)]; exact q) fun c xs q => by rw [upd_ne (ne_of_none q hn)]; exact q
      rcases hc with z | z
      · rw [z]; exact nit b u e
      · exact nit c _ z

/-! ### locking a thing while a statement runs -/
end
section
variable {X : Cx}

/-! ### one iterator just laid -/
theorem pi_one {tg : Expr} {pins : List (Addr × Obj)} {σ : St} {H : Hp} {s : Shared} {R : It → Hp → Prop} {J : It} {tn : Nat → Heap → Prop} {tk : Nat} (I : Inv X pins σ H s) (o : Obj)
    (T : Turn X.prog X.w X.K tg J [s.heap.objs.size] s.heap.objs.size tn) (st : tn 0 (s.heap.push o)) (q : R J H) : PIE X pins σ tg R (.ref s.heap.objs.size) { s with heap := s.heap.push o, toks := tk } := by
  refine ⟨s.heap.objs.size, [s.heap.objs.size], tn, J, H, rfl, I.kept fun b ob e => Heap.get?_push_of_some _ e, T, st, fun b hb => ?_, q⟩
  have e : b = s.heap.objs.size := by simpa using hb
  subst e
  exact I.fpOk (Nat.le_refl _) (I.hok.fresh (Nat.le_refl _))
end

/-! ### range with a step -/
/-- lo, lo + c, .. (n of them) -/
def Itc (lo c : Int) (n : Nat) : It := ⟨fun i _ => i < n, fun i H x H' => H' = H ∧ x = .int (lo + (i : Nat) * c), fun i _ => n ≤ i⟩
theorem turn_rangeC {P : Program} {w : World} {K : PySem.W.Frag} {tg : Expr} (it : Addr) (lo c : Int) (n : Nat) : Turn P w K tg (Itc lo c n) [it] it (fun i h => IsRangeIter h it (lo + (i : Nat) * c) ((n : Int) - (i : Nat)) c) where
  mem := by simp
  obj := fun i h st b hb => by
    have e : b = it := by simpa using hb
    subst e
    exact ⟨_, st, fun v z => nomatch z⟩
  keep := fun i h h' st k => k it (by simp) _ st
  item := by
    intro X hP hw hK hc i pins s σ H E I hf st hg
    subst hP hw hK
    obtain ⟨f0, f1, f2, f3, f4, f5⟩ := hf it (by simp)
    have W := Walks.range (prog := X.prog) (w := X.w) (I.ok.hd hc) it lo c n
    refine W.item i s _ _ hg st fun v h' tk hv st' kk => ?_
    obtain ⟨t, rfl⟩ := hv
    have I1 : Inv X pins σ H { s with heap := h', toks := tk } := I.turned (fun b o hb e => kk b o (by simpa using hb) e) f0 f1 f3 f4 f5
    exact ⟨_, rfl, go_of (s := { s with heap := h', toks := tk }) (n := "range_iterator") st' rfl rfl (by decide) ⟨.int (lo + (i : Nat) * c), H, I1, ⟨t, rfl⟩, ⟨rfl, rfl⟩, st', fun b hb => (hf b hb).1⟩⟩
  done := by
    intro X hP hw hK hc i pins s σ H E I hf st hg
    subst hP hw hK
    obtain ⟨f0, f1, f2, f3, f4, f5⟩ := hf it (by simp)
    exact wpAny_pyNext_range_end (I.ok.hd hc) st (by have : n ≤ i := hg; omega) fun h' eb => ⟨rfl, I.turned (t' := s.toks) (fun b o hb e => eb b o hb e) f0 f1 f3 f4 f5⟩
  self := fun A i s Q E st h => wpAny_pyIter_rangeiter st h
/-- range(i, j, c): small bounds, n items -/
def RgC (i j c : Int) (n : Nat) : Prop := c ≠ 0 ∧ c.natAbs < 1073741824 ∧ Builtin.Range.small i j c = true ∧ Builtin.Range.rangeSize i j c = n
theorem RgC.neg {i j : Int} (ha : -(2 ^ 62) ≤ i) (ha' : i < 2 ^ 62) (hb : -(2 ^ 62) ≤ j) (hb' : j < 2 ^ 62) : RgC i j (-1) (i - j).toNat :=
  ⟨by decide, by decide, PySem.W.small_down ha ha' hb hb', PySem.W.rangeSize_downNat i j⟩
def iRng3 (ta : TA) : TI := fun σ H R => ta σ H fun vs H1 => ∃ (i j c : Int) (n : Nat), vs = [.int i, .int j, .int c] ∧ RgC i j c n ∧ R (Itc i c n) H1
section
variable {X : Cx} {tg : Expr}
theorem pi_range3 {a b c : Expr} {ta : TA} {p pos : Pos} (hg : Gl X "range") (hm : X.mg "range" = none) (ha : PA X [a, b, c] ta)
    (hs : starEach [a, b, c] X.env = (false, eval a X.env) :: starEach [b, c] X.env := by rfl) (hpl : (backTo pos (starEach [b, c] X.env)).any (·.1) = false := by rfl) :
    PI X tg (.Call (.Name "range" p) [a, b, c] [] pos) (iRng3 ta) := by
  intro pins s σ H R I h
  refine Call_ (ld_blt I hg hm boot_range (PyProof.Rows.callWith_type1 (thn (ha pos pins s σ H _ I h) fun us s1 ⟨vs, H1, I1, r1, q1⟩ => ?_) hs hpl))
  obtain ⟨i, j, k, n, e, ⟨c0, c1, c2, c3⟩, q⟩ := q1
  subst e
  cases r1 with
  | cons r rr =>
    cases rr with
    | cons r' rr =>
      cases rr with
      | cons r'' rr =>
        cases rr
        obtain ⟨t, rfl⟩ := r
        obtain ⟨t', rfl⟩ := r'
        obtain ⟨t'', rfl⟩ := r''
        refine call_range_3 c0 ?_ (.inl (PyProof.noPylong_small c1))
        refine wpAny_pyIter_range (IsRange.new ..) c2 ?_
        have I2 : Inv X pins σ H1 { s1 with heap := s1.heap.push { cls := .type "range", data := .fields #[.int i t, .int j t', .int k t''] } } := I1.kept (t' := s1.toks) fun b o e => Heap.get?_push_of_some _ e
        refine pi_one (tk := s1.toks) I2 _ (turn_rangeC _ i k n) ?_ q
        have e1 : i + ((0 : Nat) : Int) * k = i := by simp
        have e2 : (n : Int) - ((0 : Nat) : Int) = Builtin.Range.rangeSize i j k := by rw [c3]; simp
        show IsRangeIter _ _ (i + ((0 : Nat) : Int) * k) ((n : Int) - ((0 : Nat) : Int)) k
        rw [e1, e2]
        exact Heap.get?_push_size _ rfl
end

/-! ### reversed(list) -/
section
variable {X : Cx} {tg : Expr}
end

/-! ### a str -/

/-! ### a dict's keys: any dict's entries -/
section
variable {prog : Program} {w : World} {A : Around} {E : Value → Shared → Prop} {s : Shared}
end

/-! ### a locked dict -/
section
variable {X : Cx} {pins : List (Addr × Obj)} {σ : St} {H : Hp} {s : Shared} {d : Addr} {o : Obj}
end

section
variable {P : Program} {w : World} {K : PySem.W.Frag} {tg : Expr} {d : Addr} {o : Obj} {es : Array DictEntry} {ep : Nat}
end

/-! ### for k in d, d.keys(), d.values(), d.items() -/
section
variable {X : Cx} {tg e : Expr} {td : TE} {apos cpos : Pos}
end

/-! ### enumerate(list) -/
/-- the list at a as it stands at each turn, each item in a new pair -/
def Ite (K : PySem.W.Frag) (a : Addr) : It :=
  ⟨fun i H => ∃ (xs : List V) (x : V), SqL K H a xs ∧ xs[i]? = some x, fun i H v H' => ∃ T x, v = .ref T ∧ H T = none ∧ H' = upd H T (.tup [.int (i : Nat), x]) ∧ ∀ xs, SqL K H a xs → xs[i]? = some x, fun i H => ∃ xs : List V, SqL K H a xs ∧ xs.length ≤ i⟩
theorem turn_enum {P : Program} {w : World} {K : PySem.W.Frag} {elts : List Expr} {kk : Nat} {tpos : Pos} (a e it : Addr) :
    Turn P w K (.Tuple elts kk tpos) (Ite K a) [e, it] e (fun i h => (∃ old, IsEnum h e it ((i : Nat) : Int) old) ∧ h.IsListIter it a i ∧ e ≠ it) where
  mem := by simp
  obj := fun i h st b hb => by
    obtain ⟨⟨old, he⟩, ⟨o, ho, hc, hd⟩, _⟩ := st
    have e' : b = e ∨ b = it := by simpa using hb
    rcases e' with z | z
    · rw [z]; exact ⟨_, he, fun v q => nomatch q⟩
    · rw [z]; exact ⟨o, ho, fun v q => by rw [hd] at q; cases q⟩
  keep := fun i h h' st k => let ⟨⟨old, he⟩, hi, hne⟩ := st; ⟨⟨old, k e (by simp) _ he⟩, hi.at fun o q => k it (by simp) o q, hne⟩
  item := by
    intro X hP hw hK hc i pins s σ H E I hf st hg
    subst hP hw hK
    obtain ⟨⟨old, he⟩, hit, hne⟩ := st
    obtain ⟨xs, x, hq, hx⟩ := hg
    obtain ⟨its, rv, p, hz⟩ := I.list hq
    obtain ⟨u, hu, ru⟩ := rv.get hx
    have hel : e < s.heap.objs.size := Heap.lt_size he
    have hil : it < s.heap.objs.size := by obtain ⟨_, q, _⟩ := hit; exact Heap.lt_size q
    refine wpAny_pyNext_enum_item he hit p.isList (x := u) (by simpa using hu) hne fun h' ho hit' hT hsz hk => ?_
    refine ⟨_, rfl, wpAny_letOwnedTupleGo_enum (s := { s with heap := h', toks := s.toks + 1 }) ho fun h'' he' sb => ?_⟩
    have hT2 : h''.get? s.heap.objs.size = some { cls := .type "tuple", data := .seq #[.int i s.toks, u] } := (sb.2 _ (Nat.ne_of_gt hel)).trans hT
    have new : ObjOk X.prog X.w (upd H s.heap.objs.size (.tup [.int (i : Nat), x])) h'' s.heap.objs.size (.tup [.int (i : Nat), x]) :=
      ⟨by show 2 ≤ sizeLine; decide, [.int i s.toks, u], .cons ⟨_, rfl⟩ (.cons ru .nil), ⟨_, hT2, rfl, _, rfl⟩⟩
    have I1 : Inv X pins σ (upd H s.heap.objs.size (.tup [.int (i : Nat), x])) { s with heap := h'', toks := s.toks + 1 } :=
      I.turnedNew (ch := [e, it]) (fun b ob hb q => (sb.2 b (fun z => hb (by simp [z]))).trans (hk b ob (fun z => hb (by simp [z])) (fun z => hb (by simp [z])) q)) hf (Nat.le_refl _) new
    refine ⟨.ref s.heap.objs.size, _, I1, rfl, ⟨_, x, rfl, I.hok.fresh (Nat.le_refl _), rfl, fun ys hy => by rw [I.list_inj hy hq]; exact hx⟩, ⟨⟨u, ?_⟩, hit'.at fun o q => (sb.2 it (Ne.symm hne)).trans q, hne⟩, fun b hb => ?_⟩
    · have e1 : ((i + 1 : Nat) : Int) = (i : Int) + 1 := by omega
      rw [e1]; exact he'
    · have hb' : b < s.heap.objs.size := by
        have e' : b = e ∨ b = it := by simpa using hb
        rcases e' with z | z
        · rw [z]; exact hel
        · rw [z]; exact hil
      rw [upd_ne (Nat.ne_of_lt hb')]
      exact (hf b hb).1
  done := by
    intro X hP hw hK hc i pins s σ H E I hf st hg
    subst hP hw hK
    obtain ⟨⟨old, he⟩, hit, hne⟩ := st
    obtain ⟨xs, hq, hx⟩ := hg
    obtain ⟨its, rv, p, hz⟩ := I.list hq
    obtain ⟨f0, f1, f2, f3, f4, f5⟩ := hf it (by simp)
    have hl := rv.length
    exact wpAny_pyNext_enum_end (I.ok.hd hc) he hit p.isList (by simp; omega) fun h' eb => ⟨rfl, I.turned (t' := s.toks) (fun b o hb q => eb b o hb q) f0 f1 f3 f4 f5⟩
  self := fun A i s Q E st h => let ⟨⟨_, he⟩, _⟩ := st; wpAny_pyIter_enum he h
def iEnum (K : PySem.W.Frag) (ta : TA) : TI := fun σ H R => ta σ H fun vs H1 => ∃ a xs, vs = [.ref a] ∧ SqL K H1 a xs ∧ R (Ite K a) H1
theorem pi_enum {X : Cx} {e : Expr} {ta : TA} {p pos tpos : Pos} {elts : List Expr} {kk : Nat} (hg : Gl X "enumerate") (hm : X.mg "enumerate" = none) (ha : PA X [e] ta) (hs : starEach [e] X.env = [(false, eval e X.env)] := by rfl) :
    PI X (.Tuple elts kk tpos) (.Call (.Name "enumerate" p) [e] [] pos) (iEnum X.K ta) := by
  intro pins s σ H R I h
  refine Call_ (ld_blt I hg hm boot_enumerate (PyProof.Rows.callWith_type1 (thn (ha pos pins s σ H _ I h) fun us s1 ⟨vs, H1, I1, r1, q1⟩ => ?_) hs rfl))
  obtain ⟨a, xs, ex, hq, q⟩ := q1
  subst ex
  cases r1 with
  | cons r rr =>
    cases rr
    cases r
    obtain ⟨its, rv, p', hz⟩ := I1.list hq
    refine call_enumerate_list p'.isList fun h' he hit hsz hk => wpAny_pyIter_enum he ?_
    have I2 : Inv X pins σ H1 { s1 with heap := h' } := I1.kept (t' := s1.toks) hk
    refine ⟨s1.heap.objs.size + 1, [s1.heap.objs.size + 1, s1.heap.objs.size], _, _, H1, rfl, I2, turn_enum a (s1.heap.objs.size + 1) s1.heap.objs.size, ⟨⟨.none, he⟩, hit, Nat.succ_ne_self _⟩, fun b hb => ?_, q⟩
    have e' : b = s1.heap.objs.size + 1 ∨ b = s1.heap.objs.size := by simpa using hb
    have hle : s1.heap.objs.size ≤ b := by
      rcases e' with z | z
      · rw [z]; exact Nat.le_add_right _ _
      · rw [z]; exact Nat.le_refl _
    exact I1.fpOk hle (I1.hok.fresh hle)
/-! ### zip(list, list) -/
theorem boot_zip5 : bootBuiltins "zip" = some (.type "zip") := by decide +kernel
/-- the lists at a and b as they stand at each turn, the items in new pairs -/
def Itz (K : PySem.W.Frag) (a b : Addr) : It :=
  ⟨fun i H => ∃ (xs ys : List V) (x y : V), SqL K H a xs ∧ SqL K H b ys ∧ xs[i]? = some x ∧ ys[i]? = some y,
    fun i H v H' => ∃ T x y, v = .ref T ∧ H T = none ∧ H' = upd H T (.tup [x, y]) ∧ (∀ xs, SqL K H a xs → xs[i]? = some x) ∧ ∀ ys, SqL K H b ys → ys[i]? = some y,
    fun i H => ∃ xs ys : List V, SqL K H a xs ∧ SqL K H b ys ∧ (xs.length ≤ i ∨ ys.length ≤ i)⟩
theorem turn_zip {P : Program} {w : World} {K : PySem.W.Frag} {elts : List Expr} {kk : Nat} {tpos : Pos} {a b z TI TO i1 i2 : Addr} (D : ZipApart z TI TO i1 i2 a b) :
    Turn P w K (.Tuple elts kk tpos) (Itz K a b) [z, TI, TO, i1, i2] z (fun i h => IsZip h z TI TO .none ∧ IsPair h TI (.ref i1) (.ref i2) ∧ (∃ x y, IsPair h TO x y) ∧ h.IsListIter i1 a i ∧ h.IsListIter i2 b i) where
  mem := by simp
  obj := fun i h st c hc => by
    obtain ⟨hz, hTI, ⟨x, y, hTO⟩, ⟨o1, e1, _, d1⟩, ⟨o2, e2, _, d2⟩⟩ := st
    have e' : c = z ∨ c = TI ∨ c = TO ∨ c = i1 ∨ c = i2 := by simpa using hc
    rcases e' with q | q | q | q | q
    · rw [q]; exact ⟨_, hz, fun v q => nomatch q⟩
    · rw [q]; exact ⟨_, hTI, fun v q => nomatch q⟩
    · rw [q]; exact ⟨_, hTO, fun v q => nomatch q⟩
    · rw [q]; exact ⟨o1, e1, fun v q => by rw [d1] at q; cases q⟩
    · rw [q]; exact ⟨o2, e2, fun v q => by rw [d2] at q; cases q⟩
  keep := fun i h h' st k => by
    obtain ⟨hz, hTI, ⟨x, y, hTO⟩, h1, h2⟩ := st
    exact ⟨k z (by simp) _ hz, k TI (by simp) _ hTI, ⟨x, y, k TO (by simp) _ hTO⟩, h1.at fun o q => k i1 (by simp) o q, h2.at fun o q => k i2 (by simp) o q⟩
  item := by
    intro X hP hw hK hc i pins s σ H E I hf st hg
    subst hP hw hK
    obtain ⟨hz, hTI, ⟨x0, y0, hTO⟩, h1, h2⟩ := st
    obtain ⟨xs, ys, x, y, hqx, hqy, hx, hy⟩ := hg
    obtain ⟨its, rv, p, _⟩ := I.list hqx
    obtain ⟨its2, rv2, p2, _⟩ := I.list hqy
    obtain ⟨u, hu, ru⟩ := rv.get hx
    obtain ⟨u2, hu2, ru2⟩ := rv2.get hy
    have hzl : z < s.heap.objs.size := Heap.lt_size hz
    refine wpAny_pyNext_zip_item D hz hTI hTO h1 h2 p.isList p2.isList (x := u) (y := u2) (by simpa using hu) (by simpa using hu2) fun h' z' TO' h1' h2' hT hsz hk => ?_
    refine ⟨_, rfl, wpAny_letOwnedTupleGo_zip (s := { s with heap := h' }) z' fun h'' z'' sb => ?_⟩
    have hT2 : h''.get? s.heap.objs.size = some { cls := .type "tuple", data := .seq #[u, u2] } := (sb.2 _ (Nat.ne_of_gt hzl)).trans hT
    have new : ObjOk X.prog X.w (upd H s.heap.objs.size (.tup [x, y])) h'' s.heap.objs.size (.tup [x, y]) :=
      ⟨by show 2 ≤ sizeLine; decide, [u, u2], .cons ru (.cons ru2 .nil), ⟨_, hT2, rfl, _, rfl⟩⟩
    have I1 : Inv X pins σ (upd H s.heap.objs.size (.tup [x, y])) { s with heap := h'' } :=
      I.turnedNew (t' := s.toks) (ch := [z, TI, TO, i1, i2]) (fun c o hb q => (sb.2 c (fun q' => hb (by simp [q']))).trans (hk c o (fun q' => hb (by simp [q'])) (fun q' => hb (by simp [q'])) (fun q' => hb (by simp [q'])) (fun q' => hb (by simp [q'])) q)) hf (Nat.le_refl _) new
    refine ⟨.ref s.heap.objs.size, _, I1, rfl, ⟨_, x, y, rfl, I.hok.fresh (Nat.le_refl _), rfl, fun l hl => by rw [I.list_inj hl hqx]; exact hx, fun l hl => by rw [I.list_inj hl hqy]; exact hy⟩, ⟨z'', ?_, ⟨u, u2, ?_⟩, ?_, ?_⟩, fun c hcm => ?_⟩
    · exact (sb.2 _ D.TIz).trans (hk _ _ D.TIz D.TITO D.TIi1 D.TIi2 hTI)
    · exact (sb.2 _ D.TOz).trans TO'
    · exact h1'.at fun o q => (sb.2 _ D.i1z).trans q
    · exact h2'.at fun o q => (sb.2 _ D.i2z).trans q
    · have hlt : c < s.heap.objs.size := by
        have e' : c = z ∨ c = TI ∨ c = TO ∨ c = i1 ∨ c = i2 := by simpa using hcm
        rcases e' with q | q | q | q | q
        · rw [q]; exact hzl
        · rw [q]; exact Heap.lt_size hTI
        · rw [q]; exact Heap.lt_size hTO
        · rw [q]; obtain ⟨_, e1, _⟩ := h1; exact Heap.lt_size e1
        · rw [q]; obtain ⟨_, e2, _⟩ := h2; exact Heap.lt_size e2
      rw [upd_ne (Nat.ne_of_lt hlt)]
      exact (hf c hcm).1
  done := by
    intro X hP hw hK hc i pins s σ H E I hf st hg
    subst hP hw hK
    obtain ⟨hz, hTI, ⟨x0, y0, hTO⟩, h1, h2⟩ := st
    obtain ⟨xs, ys, hqx, hqy, hend⟩ := hg
    obtain ⟨its, rv, p, _⟩ := I.list hqx
    obtain ⟨its2, rv2, p2, _⟩ := I.list hqy
    have l1 := rv.length
    have l2 := rv2.length
    have he : its.toArray[i]? = none ∨ its2.toArray[i]? = none := by
      rcases hend with q | q
      · exact .inl (by simp; omega)
      · exact .inr (by simp; omega)
    exact wpAny_pyNext_zip_end (I.ok.hd hc) D hz hTI hTO h1 h2 p.isList p2.isList he fun h' hk => ⟨rfl, I.turnedL (t' := s.toks) (ch := [z, TI, TO, i1, i2]) (fun c o hb q =>
      hk c o (fun q' => hb (by simp [q'])) (fun q' => hb (by simp [q'])) (fun q' => hb (by simp [q'])) (fun q' => hb (by simp [q'])) q) hf⟩
  self := fun A i s Q E st h => wpAny_pyIter_zip st.1 h
def iZip (K : PySem.W.Frag) (ta : TA) : TI := fun σ H R => ta σ H fun vs H1 => ∃ a b xs ys, vs = [.ref a, .ref b] ∧ SqL K H1 a xs ∧ SqL K H1 b ys ∧ R (Itz K a b) H1
theorem pi_zip {X : Cx} {e e2 : Expr} {ta : TA} {p pos tpos : Pos} {elts : List Expr} {kk : Nat} (hg : Gl X "zip") (hm : X.mg "zip" = none) (ha : PA X [e, e2] ta)
    (hs : starEach [e, e2] X.env = (false, eval e X.env) :: starEach [e2] X.env := by rfl) (hpl : (backTo pos (starEach [e2] X.env)).any (·.1) = false := by rfl) :
    PI X (.Tuple elts kk tpos) (.Call (.Name "zip" p) [e, e2] [] pos) (iZip X.K ta) := by
  intro pins s σ H R I h
  refine Call_ (ld_blt I hg hm boot_zip5 (PyProof.Rows.callWith_type1 (thn (ha pos pins s σ H _ I h) fun us s1 ⟨vs, H1, I1, r1, q1⟩ => ?_) hs hpl))
  obtain ⟨a, b, xs, ys, ex, hqx, hqy, q⟩ := q1
  subst ex
  cases r1 with
  | cons r rr =>
    cases rr with
    | cons r' rr =>
      cases rr
      cases r
      cases r'
      obtain ⟨its, rv, p1, _⟩ := I1.list hqx
      obtain ⟨its2, rv2, p2, _⟩ := I1.list hqy
      have la : a < s1.heap.objs.size := p1.lt
      have lb : b < s1.heap.objs.size := p2.lt
      refine call_zip_2 p1.isList p2.isList fun h' hz hTI hTO h1 h2 hsz hk => wpAny_pyIter_zip hz ?_
      have I2 : Inv X pins σ H1 { s1 with heap := h' } := I1.kept (t' := s1.toks) hk
      refine ⟨s1.heap.objs.size + 4, [s1.heap.objs.size + 4, s1.heap.objs.size + 2, s1.heap.objs.size + 3, s1.heap.objs.size, s1.heap.objs.size + 1], _, _, H1, rfl, I2, turn_zip (PySem.W.ktu_apart s1.heap.objs.size a b la lb), ⟨hz, hTI, ⟨_, _, hTO⟩, h1, h2⟩, fun c hcm => ?_, q⟩
      have e' : c = s1.heap.objs.size + 4 ∨ c = s1.heap.objs.size + 2 ∨ c = s1.heap.objs.size + 3 ∨ c = s1.heap.objs.size ∨ c = s1.heap.objs.size + 1 := by simpa using hcm
      have hle : s1.heap.objs.size ≤ c := by
        rcases e' with z | z | z | z | z
        · rw [z]; exact Nat.le_add_right _ _
        · rw [z]; exact Nat.le_add_right _ _
        · rw [z]; exact Nat.le_add_right _ _
        · rw [z]; exact Nat.le_refl _
        · rw [z]; exact Nat.le_add_right _ _
      exact I1.fpOk hle (I1.hok.fresh hle)
end L2

section 
namespace Bits
open PySem PyProof.Rows








end Bits
end 

section 
namespace TL
open PySem PySem.Builtin PySem.Builtin.Str PySem.StrLaws

abbrev tl (x : Str) : List Nat := x.cps.toList

/-! ### the list functions -/




/-! ### the model's split and partition are these -/




/-! ### computing spl and par -/


/-! ### digits -/

/-! ### words: x.split() -/
end TL
end 

namespace L2
open PySem PySem.Spec PyProof.Rows




section
variable {X : Cx} {pins : List (Addr × Obj)} {σ : St} {H : Hp} {s : Shared} {Q : VK}
end

section
variable {X : Cx}





/-! ### of a text alone -/

/-! ### of a text and a text -/

end

section
variable {X : Cx} {o e : Expr} {to te : TE}

end
end L2

namespace L2
open PySem PySem.Spec PyProof.Rows

section
variable {X : Cx}
end

/-! ### slices of a text -/


end L2

namespace Att
open PySem PySem.W PySem.Calls PyProof.Rows

/-! ### the script -/
theorem ints_of_wellAll {P : Params} {h : Heap} : ∀ (ns : List Int) (vs : List Value), WellAll P h vs (ns.map WData.int) → IntsAre vs ns := by
  intro ns
  induction ns with
  | nil =>
    intro vs w
    rw [List.map_nil] at w
    cases w
    exact .nil
  | cons n ns ih =>
    intro vs w
    rw [List.map_cons] at w
    cases w with
    | cons a b =>
      cases a
      exact .cons _ _ (ih _ b)

theorem script_of {l : OpenLaw} {n : Nat} (hn : l.most = some n) {P : Params} {h : Heap} {args : List WData} {vals : List Value}
    (hpre : l.row.toRowW.claim.pre args = true) (hwl : WellAll P h vals args) :
    ∃ a vs ns, vals = [Value.ref a] ∧ args = [WData.list (ns.map WData.int)] ∧ h.get? a = some { cls := .type "list", data := .seq vs.toArray } ∧ IntsAre vs ns ∧ ns.length ≤ n := by
  have hsh : WShape.hasAll [] args [.list .int] = true := (pre_splitW hpre).1
  have hc : l.pre.holds [] { args := args } = true := (pre_splitW hpre).2
  obtain ⟨d, r, rfl, h1, h2⟩ := hasAllW_cons hsh
  obtain rfl := hasAllW_nil h2
  obtain ⟨xs, rfl, h3⟩ := hasW_list h1
  obtain ⟨ns, rfl⟩ := items_int h3
  have hlen : ns.length ≤ n := by
    unfold OpenLaw.pre at hc
    have h4 : (WTm.not (.lt (.lit (.int (n : Int))) (.len (.arg 0)))).holds [] { args := [.list (ns.map .int)] } = true := by
      have h4 := (holds_andW hc).1
      rw [hn] at h4
      exact h4
    have h5 := condW_of h4 (w_not (w_lt w_lit (w_len_list (w_arg rfl))))
    rw [List.length_map] at h5
    refine Nat.le_of_not_lt fun q => ?_
    have q' : (n : Int) < ((ns.length : Nat) : Int) := by omega
    first
      | (rw [decide_eq_true q'] at h5; exact absurd h5 (by decide))
      | (simp at h5; omega)
  cases hwl with
  | cons w1 w2 =>
    cases w2
    cases w1 with
    | list ho hall => exact ⟨_, _, ns, rfl, rfl, ho, ints_of_wellAll ns _ hall, hlen⟩

theorem post_true (l : OpenLaw) (args : List WData) : l.row.toRowW.claim.post args (.bool true) args = true :=
  postW_of (r := l.row.toRowW) (X := (true == true))
    (show WShape.has [] (.bool true) .bool = true by first | rfl | decide | simp [WShape.has, WShape.arms, WShape.armsAll])
    (show (WTm.eq .res (.lit (.bool true))).value [] { args := args, res := some (.bool true), after := args } = some (.bool (true == true)) from w_eq_bool (w_res rfl) w_lit) rfl

/-! ### the attachment: holds_open's last premise (the goal 'hc' behind k_head) from a wpAny of the law's body -/

/-- the same from a codeAny of the CALL (for a layer whose function contracts speak of calls) -/
theorem attach_call {l : OpenLaw} {n : Nat} {q : Program} {loose : List Str} {XP : (Str → Option Value) → Heap → Prop} {YP : World → Heap → Prop} {d : DefRec}
    (hn : l.most = some n) (hdf : d.params.defaults = [])
    (call : ∀ (w : World) (s₀ s₁ : Shared) (mg mb : Str → Option Value) (fa : Addr) (o : Obj) (pm cd doc : Value) (a : Addr) (vs : List Value) (ns : List Int),
      Ground q loose [] XP w s₀ mg mb s₁.heap → YP w s₁.heap →
      s₁.heap.get? fa = some o → o.data = .func (docDef d.name d.params d.body d.scope pm cd doc) → s₁.heap.CodeRec cd d.name → mg d.name = some (.ref fa) →
      s₁.heap.get? a = some { cls := .type "list", data := .seq vs.toArray } → IntsAre vs ns → ns.length ≤ n → s₁.gens = #[] →
      codeAny (model l.prog w) callerA (.call (.ref fa) ⟨[.ref a], []⟩) (fun r s' => r = .ok (.ret (.bool true)) ∧ OldK s₁.heap s'.heap ∧ s'.os = s₁.os ∧ AllBare s'.gens) s₁) :
    WalkO q loose XP YP l.row.toRowW d [] (fun f vs => PySem.call f vs) := by
  intro w s₀ s₁ mg mb G Y fa o pm cd doc dV kV ho hd hcd hD hmg hg args vals as hpre hlay hrd hwl hlo
  obtain rfl : dV = .none := Dflts.none hD hdf
  obtain rfl : kV = .none := Dflts.noKw hD
  obtain ⟨a, vs, ns, rfl, rfl, hobj, hints, hlen⟩ := script_of hn hpre hwl
  refine enter_call (codeAny_mono (call w s₀ s₁ mg mb fa o pm cd doc a vs ns G Y ho (fd_plain hd) hcd hmg hobj hints hlen hg) fun r s' hq => ?_)
  obtain ⟨rfl, h2, h3, h4⟩ := hq
  exact ⟨.inl ⟨.bool true, .bool true, [], rfl, fun _ => rfl, .bool true, post_true l _, fun _ => ⟨List.Pairwise.nil, fun _ hm => (nomatch hm)⟩⟩, h2, h3, h4⟩


/-! ### rules over ANY heap (no ledger) from facts about the written part K: the library's own take a ledger (News) for what they write -/
section
variable {prog : Program} {w : World} {A : Around} {E : Value → Shared → Prop} {s : Shared} {K : Frag}


/-- C(..): dict at size, instance at size + 1, then __init__ -/
theorem make_obj {R : Result → Shared → Prop} {C fI : Addr} {rest : List Value} {kw : List (Str × Value)}
    (X : K.In s.heap) (hm : makesIn K C = true) (hi : findIn K (.ref C) "__init__" = some (some (.ref fI))) (hf : isFn K (.ref fI) = true)
    (h : codeAny (model prog w) (A.under (.builtin "type.__call__" ⟨.ref C :: rest, kw⟩)) (.call (.ref fI) ⟨.ref (s.heap.objs.size + 1) :: rest, kw⟩) (InitBack (s.heap.objs.size + 1) R)
      { s with heap := (s.heap.push emptyDict).push (instObj C s.heap.objs.size) }) : codeAny (model prog w) A (.call (.ref C) ⟨rest, kw⟩) R s := by
  obtain ⟨hh, g, d, t, os⟩ := s
  exact make_core (makes_of X hm) (looks_findIn X hi) (fun self => bind_fn X self (beq_iff_eq.mp hf)) (.inl rfl) h

/-- x.name where the instance's dict holds the name and the class does not -/
theorem get_field {x C : Addr} {ox : Obj} {es : List DictEntry} {n : Nat} {name : Str} {expr : Bool} {v : Value} {Q : Value → Shared → Prop}
    (X : K.In s.heap) (I : PySem.W.InstAt s.heap x ox C (some (dictOf es n))) (hg : plainGet K C name = true) (hh : hasDictIn K C = true) (ha : findIn K (.ref C) name = some none)
    (hl : getL name es = some (some v)) (hv : handedIn v = true) (h : Q v { s with toks := s.toks + 1 }) : wpAny (model prog w) A (getAttr (.ref x) name expr) Q E s :=
  get_value X I (plainGet_of hg).1 (findObj_own hh ha rfl hl) hv h


/-! the whole heap as the ledger: makes every rule that writes through a ledger a rule over any heap -/

end
end Att

namespace L2
open PySem PySem.Spec PyProof.Rows

theorem vals_ints : ∀ {vs : List Value} {ns : List Int}, IntsAre vs ns → Vals (ns.map V.int) vs
  | _, _, .nil => .nil
  | _, _, .cons n t h => .cons ⟨t, rfl⟩ (vals_ints h)

/-- nothing is tracked but the script, known to the object (or it is an object of the module) -/
def Only (H : Hp) : Prop := ∀ b, H b = none ∨ ∃ o xs, H b = some (.frz o (.lst xs))

/-- THE HEAD: the law's promise, at the heap behind the top. F, the promise of the law's def, may use that base is part of the heap (so K.In base, base.Ns mainGlobals mg stand in Mod) -/
theorem law_call {P : Program} {w : World} {K : PySem.W.Frag} {mg mb : Str → Option Value} {CX : CXT} {k : Nat} {fa a : Addr} {fd : FuncData} {x : Str} {sp : Sp} {s₁ : Shared} {vs : List Value} {ns : List Int}
    (KX : K.In s₁.heap) (hns : s₁.heap.Ns mainGlobals mg) (hb : s₁.heap.Ns builtinsNs mb) (hbb : ∀ x : Str, x ≠ "__name__" → mb x = bootBuiltins x) (hlim : s₁.heap.NoLimit) (hg : s₁.gens = #[])
    (ha : s₁.heap.get? a = some { cls := .type "list", data := .seq vs.toArray }) (hi : IntsAre vs ns) (hl : ns.length ≤ sizeLine) (hr : Room k callerA)
    (F : ∀ base : Heap, K.In base → base.Ns mainGlobals mg → FnOk P w K mg base CX k fa fd [x] sp) (hbind : ∀ (s : Shared) (u : Value), BindsTo s fd ⟨[u], []⟩ [(x, u)])
    (hsp : ∀ H : Hp, Only H → SqL K H a (ns.map V.int) → sp [.ref a] H (fun v _ => v = .bl true) fun _ _ _ => False)
    (hCX : ∀ H e s', CX [] H s₁ (fun _ _ _ => False) e s' → False) :
    codeAny (model P w) callerA (.call (.ref fa) ⟨[.ref a], []⟩) (fun r s' => r = .ok (.ret (.bool true)) ∧ OldK s₁.heap s'.heap ∧ s'.os = s₁.os ∧ AllBare s'.gens) s₁ := by
  have rv := vals_ints hi
  have lenV := hi.length
  -- from an abstract heap in which nothing but the script may be tracked
  have core : ∀ H : Hp, Only H → SqL K H a (ns.map V.int) → HOk P w H s₁.heap → (∀ b, H b ≠ none → b = a) → (H a ≠ none → K.lookup a = none) →
      codeAny (model P w) callerA (.call (.ref fa) ⟨[.ref a], []⟩) (fun r s' => r = .ok (.ret (.bool true)) ∧ OldK s₁.heap s'.heap ∧ s'.os = s₁.os ∧ AllBare s'.gens) s₁ := by
    intro H hO hS hok hA hK
    have base_of : ∀ {b : Addr} {o : Obj}, s₁.heap.get? b = some o → H b = none → (hidT s₁.heap H).get? b = some o := fun e n => hidT_get e n
    have noA : ∀ {b : Addr} {o : Obj} {es : Array DictEntry} {ep : Nat}, s₁.heap.get? b = some o → o.data = .dict es ep → H b = none := fun {b o es ep} e d => by
      cases q : H b with
      | none => rfl
      | some u =>
        have e' : b = a := hA b (by rw [q]; simp)
        subst e'
        rw [ha] at e; cases e
        have d' : Data.seq vs.toArray _ = Data.dict es ep := d
        cases d'
    have nsK : ∀ {b : Addr} {m : Str → Option Value}, s₁.heap.Ns b m → (hidT s₁.heap H).Ns b m := fun {b m} ⟨o, es, ep, e, d, r⟩ => ⟨o, es, ep, base_of e (noA e d), d, r⟩
    have hKb : K.In (hidT s₁.heap H) := fun b o e => base_of (KX b o e) (by
      cases q : H b with
      | none => rfl
      | some u =>
        have e' : b = a := hA b (by rw [q]; simp)
        subst e'
        rw [hK (by rw [q]; simp)] at e; cases e)
    have hM : Mod K mg (hidT s₁.heap H) := ⟨hKb, nsK hns, ⟨mb, nsK hb, hbb⟩, let ⟨mc, h1, h2⟩ := hlim; ⟨mc, nsK h1, h2⟩⟩
    have e0 : Env0 P w K mg (hidT s₁.heap H) callerA [] s₁ H := ⟨rfl, hM, fun b o e => of_hidT e, Nat.le_of_eq (hidT_size _ _), trivial, fun b hb => absurd (show b ∈ ([] : List Addr) from hb) (by simp), hok, .of_eq hg⟩
    refine codeAny_mono ((F _ hKb (nsK hns)).run callerA [] s₁ H ⟨[.ref a], []⟩ [.ref a] [.ref a] _ _ hr e0 (hbind s₁ (.ref a)) (.cons rfl .nil) (hsp H hO hS)) fun r s' h => ?_
    cases r with
    | error e => exact (hCX H e s' h).elim
    | ok fl =>
      cases fl with
      | next => exact False.elim h
      | brk => exact False.elim h
      | cont => exact False.elim h
      | ret u =>
        obtain ⟨v, H', os, bare, un, hok', r', q⟩ := h
        have q' : v = .bl true := q
        subst q'
        obtain rfl : u = Value.bool true := r'
        refine ⟨rfl, OldK.of_keep fun b o e => ?_, os, bare⟩
        cases q : H b with
        | none => exact un.keep b o e q (by intro z; exact absurd (show b ∈ ([] : List Addr) from z) (by simp)) (by simp)
        | some u =>
          rcases hO b with z | ⟨ob, xs, z⟩
          · rw [q] at z; cases z
          · have z2 := un.frzs b ob _ z
            obtain ⟨e1, _⟩ := hok b _ z
            obtain ⟨e2, _⟩ := hok' b _ z2
            rw [e] at e1; cases e1
            exact e2
  cases hk : K.lookup a with
  | some o =>
    -- the script is one of the module's own objects
    have e := KX a o hk
    rw [ha] at e
    cases e
    refine core (fun _ => none) (fun _ => .inl rfl) (.inr ⟨_, vs.toArray, _, hk, rfl, rfl, rfl, by rw [List.size_toArray, lenV]; exact hl, by simpa using rv⟩) (fun b u z => by have z' : (none : Option HO) = some u := z; cases z') (fun b z => absurd rfl z) fun z => absurd rfl z
  | none =>
    refine core (fun b => if b = a then some (.frz { cls := .type "list", data := .seq vs.toArray } (.lst (ns.map V.int))) else none) (fun b => ?_) (.inl (.inr ⟨{ cls := .type "list", data := .seq vs.toArray }, if_pos rfl⟩)) (fun b u z => ?_) (fun b z => ?_) fun _ => hk
    · by_cases hb : b = a
      · exact .inr ⟨_, _, if_pos hb⟩
      · exact .inl (if_neg hb)
    · by_cases hb : b = a
      · have z' := (if_pos hb).symm.trans z
        cases z'
        subst hb
        exact ⟨ha, by rw [List.length_map]; exact hl, vs, _, rv, ha⟩
      · have z' := (if_neg hb).symm.trans z
        cases z'
    · by_cases hb : b = a
      · exact hb
      · exact absurd (if_neg hb) z
end L2

namespace L2
open PySem PySem.Spec PyProof.Rows

abbrev KOf {K : PySem.W.Frag} {h : Heap} (_ : K.In h) : PySem.W.Frag := K

/-- the goal that k_head leaves (case hc), from the law's promise. F gives the function object fd (K's own) once, then the promise over every base -/
theorem walk_of {l : PySem.W.OpenLaw} {n k : Nat} {q : Program} {loose : List Str} {XP : (Str → Option Value) → Heap → Prop} {YP : World → Heap → Prop} {d : DefRec} {K : Params → PySem.W.Frag} {CX : World → CXT} {sp : World → Sp} {x : Str}
    (hn : l.most = some n) (hn2 : n ≤ sizeLine) (hdf : d.params.defaults = []) (hr : Room k callerA)
    (hY : ∀ (w : World) (h : Heap), YP w h → (K w.params).In h)
    (F : ∀ (w : World) (mg : Str → Option Value) (fa : Addr) (h : Heap), (K w.params).In h → h.Ns mainGlobals mg → mg d.name = some (.ref fa) →
      ∃ fd : FuncData, (∀ (s : Shared) (u : Value), BindsTo s fd ⟨[u], []⟩ [(x, u)]) ∧
        ∀ base : Heap, (K w.params).In base → base.Ns mainGlobals mg → FnOk l.prog w (K w.params) mg base (CX w) k fa fd [x] (sp w))
    (hsp : ∀ (w : World) (H : Hp) (a : Addr) (ns : List Int), ns.length ≤ n → Only H → SqL (K w.params) H a (ns.map V.int) → sp w [.ref a] H (fun v _ => v = .bl true) fun _ _ _ => False)
    (hCX : ∀ (w : World) (H : Hp) (s : Shared) (e : Value) (s' : Shared), CX w [] H s (fun _ _ _ => False) e s' → False) :
    PySem.W.WalkO q loose XP YP l.row.toRowW d [] (fun f vs => PySem.call f vs) := by
  refine Att.attach_call hn hdf fun w s₀ s₁ mg mb fa o pm cd doc a vs ns G Y ho hd hcd hmg hobj hints hlen hg => ?_
  have KX := hY w _ Y
  obtain ⟨fd, hb, hF⟩ := F w mg fa _ KX G.T.g hmg
  exact law_call KX G.T.g G.T.b G.T.builtins G.T.nolimit hg hobj hints (Nat.le_trans hlen hn2) hr hF hb (fun H hO hS => hsp w H a ns hlen hO hS) fun H e s' => hCX w H s₁ e s'
end L2

/- THE LAST THEOREM (shape; LID, My.* are yours):
   My.Adr: a structure of the addresses that your layer names (classes, functions); My.Txt K t: a structure (Prop) of the equations over K;
   My.txt_mk : {K} {implicit addresses ..} (e1 : nsIn K mainGlobals "law" = some (some (.ref f))) (e2 : K.lookup f = some ⟨oc, od, .func (fnOf "law" "law" params body scope dV kV doc pm an cdv ct), sl⟩) (e3 : codeIn K cdv "law" = true) .. : ∃ t, My.Txt K t

set_option maxRecDepth 100000 in
set_option maxHeartbeats 0 in
theorem PySem.Challenge.cw_LID_holds : PySem.Challenge.rw_LID.Holds := by
  w_on; o_law; k_head; (case hw => w_witness2)
  k_fill
  refine L2.walk_of (l := PySem.Challenge.rw_LID) (n := 63) (k := 40) (x := "script") (CX := fun w => ..) (sp := fun _ => My.sp_law) rfl (by decide) rfl ⟨rfl, by decide, by decide⟩ (fun w h Y => PySem.W.kIn_of Y) ?F ?S ?C
  case F =>
    intro w mg fa h KX G hmg
    have T : ∃ t, My.Txt (L2.KOf KX) t := by
      dsimp only [L2.KOf]                          -- K must stand as «<heap const> w.params» for k_is
      refine' My.txt_mk ?e1 ?e2 ?e3 ..
      (case e1 => PySem.W.k_is)                    -- in the order: a name -> its address -> its object -> its parts
      (case e2 => PySem.W.k_is)
      ..
    obtain ⟨t, T⟩ := T
    have e0 := hmg.symm.trans (PySem.W.mg_of KX G T.law)
    cases e0                                       -- fa is the law's own address
    exact ⟨_, fun s u => .of_eq rfl, fun base kb nb => My.law_fn T kb nb⟩     -- if «.of_eq rfl» comes too early: refine' ⟨_, ?b, fun base kb nb => My.law_fn T kb nb⟩; exact fun s u => .of_eq rfl
  case S => exact fun w H a ns hl hO hS => ..
  case C => exact ..
(the tactic k_is has no namespace: write k_is) -/

/-! SHORT WORDS over the layer: a def of the text, its body, what a loop and a test want. -/
namespace L2
open PySem PySem.Spec PyProof.Rows

/-! ### the text by places -/
/-- the j-th statement of a class's body -/
def inClass (s : Stmt) (j : Nat) : Stmt := match s with
  | .ClassDef _ _ _ body _ _ _ _ _ _ _ => body.getD j (.Pass ⟨0, 0, 0, 0⟩)
  | _ => .Pass ⟨0, 0, 0, 0⟩
def defArgs (s : Stmt) : Arguments := match s with
  | .FunctionDef _ a _ _ _ _ _ _ _ _ => a
  | _ => { posonlyargs := [], args := [], vararg := none, kwonlyargs := [], kw_defaults := [], kwarg := none, defaults := [] }
def defBody (s : Stmt) : List Stmt := match s with
  | .FunctionDef _ _ b _ _ _ _ _ _ _ => b
  | _ => []
def defScope (s : Stmt) : Scope := match s with
  | .FunctionDef _ _ _ _ _ _ sc _ _ _ => sc
  | _ => { kind := .function, names := [], isGenerator := false, isCoroutine := false }

/-! ### no exception leaves a def -/
abbrev CX0 : CXT := fun _ _ _ _ _ _ => False
abbrev E0 : XK := fun _ _ _ => False
theorem pass0 {X : Cx} : Passes CX0 X E0 := fun _ _ _ _ _ _ _ h => h.elim

/-! ### a def (or method) of the text as it stands behind the top -/
structure Fun (K : PySem.W.Frag) (x qual : Str) (st : Stmt) (f : Addr) (fd : FuncData) : Prop where
  ex : ∃ (oc : Value) (od : Option Addr) (kV doc pm : Value) (an : Option Addr) (cdv ct : Value) (osl : Array (Option Value)),
    fd = PySem.W.fnOf x qual (defArgs st) (defBody st) (defScope st) .none kV doc pm an cdv ct ∧ K.lookup f = some ⟨oc, od, .func fd, osl⟩ ∧ PySem.W.codeIn K cdv qual = true
  kp : PySem.W.keepIn K (.ref f) = true
section
variable {P : Program} {w : World} {K : PySem.W.Frag} {mg : Str → Option Value} {base : Heap}
/-- THE RULE for a def: its body as a term of rules, and the reading of that term -/
theorem Fun.ok {x qual : Str} {st : Stmt} {f : Addr} {fd : FuncData} {N ps : List Str} {k : Nat} {sp : Sp} (F : Fun K x qual st f fd) (S : FnScope N ps (defScope st)) (len : ∀ vs H Q E, sp vs H Q E → vs.length = ps.length)
    (hbody : ∀ (cdv : Value) (A : Around) (outer : List Env) (s : Shared) (H : Hp) (vs : List V) (Q : VK) (E : XK), Room k (A.deeper (envOfC qual (defScope st) s.heap.objs.size f cdv)) → sp vs H Q E →
      ∃ t, PSs (cxOf CX0 P w K mg base N qual (defScope st) f cdv A outer s H E).nox (defBody st) t ∧ t { nx := fun _ H' => Q .non H', rt := Q } (start N vs) H) : FnOk P w K mg base CX0 (k + 1) f fd ps sp := by
  obtain ⟨oc, od, kV, doc, pm, an, cdv, ct, osl, rfl, lk, hcd⟩ := F.ex
  refine fn_of lk hcd S len fun A outer s H vs Q E hr hsp => ?_
  obtain ⟨t, h, q⟩ := hbody cdv A outer s H vs Q E hr hsp
  exact ⟨t, h.nox, q⟩
/-- how its arguments bind (no defaults): h is «fun _ _ _ _ _ _ us hl => match us, hl with | [_, _], _ => rfl», one _ a parameter -/
theorem Fun.binds {x qual : Str} {st : Stmt} {f : Addr} {fd : FuncData} {ps : List Str} (F : Fun K x qual st f fd)
    (h : ∀ (kV doc pm : Value) (an : Option Addr) (cdv ct : Value) (us : List Value), us.length = ps.length → bindArgs (PySem.W.fnOf x qual (defArgs st) (defBody st) (defScope st) .none kV doc pm an cdv ct) ⟨us, []⟩ = pure (ps.zip us)) : Binds K fd ps [] := by
  obtain ⟨oc, od, kV, doc, pm, an, cdv, ct, osl, rfl, lk, hcd⟩ := F.ex
  exact .all (h kV doc pm an cdv ct)
theorem fun_mk {x qual : Str} {st : Stmt} {f : Addr} {oc : Value} {od an : Option Addr} {osl : Array (Option Value)} {kV doc pm cdv ct : Value} (l : K.lookup f = some ⟨oc, od, .func (PySem.W.fnOf x qual (defArgs st) (defBody st) (defScope st) .none kV doc pm an cdv ct), osl⟩)
    (c : PySem.W.codeIn K cdv qual = true) (k : PySem.W.keepIn K (.ref f) = true) : Fun K x qual st f (PySem.W.fnOf x qual (defArgs st) (defBody st) (defScope st) .none kV doc pm an cdv ct) := ⟨⟨oc, od, kV, doc, pm, an, cdv, ct, osl, rfl, l, c⟩, k⟩
end

/-! ### expressions in short: the name that stands in the i-th slot -/
section
variable {X : Cx}
/-- len of a dict -/
theorem call_lenD : CallR X (.builtin "len") (fun xs H Q => ∃ a kvs, xs = [V.ref a] ∧ H a = some (.dK kvs) ∧ Q (.int kvs.length) H) := by
  intro pins s σ H xs us Q I r h
  obtain ⟨a, kvs, rfl, ha, q⟩ := h
  obtain ⟨u, rfl, ru⟩ := vals1 r
  cases ru
  exact d_len I (.inl ha) fun t s' I' => ⟨.int kvs.length, H, I', ⟨t, rfl⟩, q⟩
end

/-! ### tests -/

/-! ### heaps -/
/-- all that was tracked is as it was -/
def Same (H H' : Hp) : Prop := ∀ b o, H b = some o → H' b = some o

/-! ### a dict's pairs: keys that differ -/
section
variable {κ : Type} [DecidableEq κ]
theorem nd_snoc : ∀ {l : List κ} {k : κ}, l.Nodup → ¬ k ∈ l → (l ++ [k]).Nodup
  | [], k, _, _ => by simp
  | a :: r, k, h, hk => by
    obtain ⟨h1, h2⟩ := List.nodup_cons.mp h
    show (a :: (r ++ [k])).Nodup
    refine List.nodup_cons.mpr ⟨fun m => ?_, nd_snoc h2 fun m => hk (List.mem_cons.mpr (Or.inr m))⟩
    rcases List.mem_append.mp m with q | q
    · exact h1 q
    · exact hk (List.mem_cons.mpr (Or.inl (List.mem_singleton.mp q).symm))
end
/-! ### lists -/
theorem nd_ix {α : Type} {l : List α} (hN : l.Nodup) {i j : Nat} {x : α} (a : l[i]? = some x) (b : l[j]? = some x) : i = j := by
  obtain ⟨h1, e1⟩ := List.getElem?_eq_some_iff.mp a
  obtain ⟨h2, e2⟩ := List.getElem?_eq_some_iff.mp b
  exact (List.getElem_inj hN).mp (e1.trans e2.symm)
/-- a new instance and its __init__ leave all that was tracked as it was -/
theorem Same.made {H H1 : Hp} {x dx C : Addr} (nx : H x = Option.none) (nd : H dx = Option.none) (k : ∀ b o, (upd (upd H dx (.own x)) x (.ins C dx [])) b = some o → b ≠ x → H1 b = some o) : Same H H1 := fun b o e =>
  k b o (by rw [upd_ne (ne_of_none e nx), upd_ne (ne_of_none e nd)]; exact e) (ne_of_none e nx)
end L2

end

section
set_option Elab.async false
set_option linter.all false
/-! The runner, part X: more rules beside the layer's. -/
namespace R
open PySem PySem.Spec L2 PyProof.Rows
section
variable {X : Cx}
/-- // by a positive divisor of less than 9000 bits -/
def CDivB (i j : Int) : Prop := 0 < j ∧ j.natAbs.log2 < 9000
theorem op_fdivB : OpR X (binaryOp .FloorDiv) (rI CDivB fun i j => .int (i / j)) := opI fun i j _ _ _ _ _ hc q => by
  have h1 : (0 : Int) < j := hc.1
  exact floordiv_int (by omega) (by rw [Int.fdiv_eq_ediv_of_nonneg i (by omega)]; exact q) (.inl (PyProof.noPylong_of_log2 hc.2))
/-- << of a number that is not beyond a million bits -/
def CShl (i j : Int) : Prop := 0 ≤ j ∧ j ≤ 1000000 ∧ i.natAbs.log2 < 1000000
theorem CShl.sz {i j : Int} (h : CShl i j) : (Builtin.Int.intBits i : Int) + j ≤ 2 ^ 27 := by
  obtain ⟨h1, h2, h3⟩ := h
  have : Builtin.Int.intBits i ≤ i.natAbs.log2 + 1 := by
    unfold Builtin.Int.intBits
    split <;> omega
  have e : (2 : Int) ^ 27 = 134217728 := by decide
  rw [e]
  omega
theorem op_shlB : OpR X (binaryOp .LShift) (rI CShl fun i j => .int (i * 2 ^ j.toNat)) := opI fun _ _ _ _ _ _ _ hc q => lshift_int hc.1 (CShl.sz hc) q
theorem iop_shlB : OpR X (inplaceOp .LShift) (rI CShl fun i j => .int (i * 2 ^ j.toNat)) := opI fun _ _ _ _ _ _ _ hc q => ilshift_int hc.1 (CShl.sz hc) q
/-- ** with a result of less than 2 ** 27 bits -/
def CPowB (i j : Int) : Prop := 0 ≤ j ∧ ((i.natAbs.log2 + 1 : Nat) : Int) * j ≤ 134217728
theorem op_powB : OpR X (binaryOp .Pow) (rI CPowB fun i j => .int (i ^ j.toNat)) := opI fun i j _ _ _ _ _ hc q => pow_int hc.1 (by
  obtain ⟨h1, h2⟩ := hc
  have : (Builtin.Int.intBits i : Int) ≤ ((i.natAbs.log2 + 1 : Nat) : Int) := by
    unfold Builtin.Int.intBits
    split <;> omega
  have e : (2 : Int) ^ 27 = 134217728 := by decide
  rw [e]
  exact Int.le_trans (Int.mul_le_mul_of_nonneg_right this h1) h2) q
/-- xs += ys -/
def rIcat : R2 := fun x y H Q => ∃ l b xs zs, x = .ref l ∧ y = .ref b ∧ H l = some (.lst xs) ∧ H b = some (.lst zs) ∧ xs.length + zs.length ≤ sizeLine ∧ Q (.ref l) (upd H l (.lst (xs ++ zs)))
theorem seq_list_iadd : seqSlot? (.type "list") (dunderI "add") = pure (some (.builtin "list.__iadd__")) := PySem.seqSlot_of PySem.F.slot_list_iadd.lookup (by decide +kernel)
theorem wpAny_inplaceOp_icat {M : Model} {A : Around} {E : Value → Shared → Prop} {s : Shared} {a b : Value} {Q : Value → Shared → Prop} (ha : s.TypeIs a "list") (hb : s.TypeIs b "list")
    (hc : wpAny M A (call (.builtin "list.__iadd__") [a, b]) Q E s) : wpAny M A (inplaceOp .Add a b) Q E s := by
  unfold inplaceOp
  refine wpAny_holding ?_
  have hfi : fillsInplaceSlot (.type "list") "add" (Operator.Add == .Add) = pure false := by
    unfold fillsInplaceSlot
    show (typeLookup (.type "list") (dunderI "add") >>= fun fi => pure (fi.isSome && !isSeqSlot fi)) = pure false
    rw [PySem.F.slot_list_iadd.lookup]
    have e : isSeqSlot (some (.builtin "list.__iadd__")) = true := by decide +kernel
    simp only [pure_bind, Option.isSome_some, e, Bool.not_true, Bool.and_false]
  refine wpAny_bind (wpAny_typeOf ha (wpAny_bind (wpAny_of_eq hfi ?_)))
  show wpAny M A (if false = true then _ else _) Q E s
  rw [if_neg Bool.false_ne_true]
  refine wpAny_bind (wpAny_binaryOp1_none (nm := "add") ha hb noFill_list_add ?_)
  refine wpAny_bind (wpAny_of_eq seq_list_iadd ?_)
  exact wpAny_bind (wpAny_rule hc)
theorem ip_cat : PIp X .Add rIcat := by
  intro pins s σ H x y v u Q I rx ry h
  obtain ⟨l, b, xs, zs, rfl, rfl, hH, hB, hz, q⟩ := h
  cases rx
  cases ry
  obtain ⟨z, its, n, r, hl, e⟩ := I.lstM hH
  obtain ⟨z2, its2, n2, r2, hl2, e2⟩ := I.lstM hB
  have hsz : its.toArray.size + its2.toArray.size ≤ sizeLine := by rw [List.size_toArray, List.size_toArray]; omega
  have hlong : ¬ (!its.toArray.isEmpty && Builtin.List.listTooLong (its.toArray.size + its2.toArray.size)) = true := by
    rw [notLongL hsz, Bool.and_false]
    exact Bool.false_ne_true
  refine wpAny_inplaceOp_icat ⟨_, e, rfl⟩ ⟨_, e2, rfl⟩ ?_
  refine call_meets PySem.F.slot_list_iadd ⟨_, e, rfl⟩ PySem.F.entry_list_iadd (PySem.F.args_list_iadd_2 _ _)
    (AutoSeq1.list___iadd___list_list_0 l its.toArray n b its2.toArray n2 hlong (by rw [List.size_toArray]; omega) (by omega)) ⟨e, e2, ?_⟩
  refine ⟨.ref l, _, I.lset (its' := its ++ its2) hH e (by simp) (r.append r2) ?_, rfl, q⟩
  rw [List.length_append]
  omega
/-- o.f as a target -/
def gFld (K : PySem.W.Frag) (ta : TE) (f : Str) : TG := fun y σ H Q => ta σ H fun x H2 => ∃ a C dx fs, x = .ref a ∧ H2 a = some (.ins C dx fs) ∧ Cls K C ∧ NoAttr K C f ∧ fs.length < 1000 ∧ Q σ (upd H2 a (.ins C dx (putF f y fs)))
theorem pg_fld {o : Expr} {f : Str} {pos : Pos} {ta : TE} (ha : PE X o ta) : PG X (.Attribute o f pos) (gFld X.K ta f) := by
  intro pins s σ H v u Q I r h
  rw [show assign (.Attribute o f pos) X.env u = (do
    let ov ← holding [u] (eval o X.env)
    standAt pos.atName
    holding [u, ov] (setAttr ov f u)
    release [u, ov] []) from rfl]
  refine wpAny_bind (wpAny_holding (thn (ha pins s σ H _ I h) fun ov s2 ⟨x, H2, I2, rx, a, C, dx, fs, ex, ea, c, n, l, q2⟩ => ?_))
  subst ex
  obtain rfl : ov = Value.ref a := rx
  refine wpAny_bind (wpAny_standAt (wpAny_bind (wpAny_holding ?_)))
  exact setattr_ok I2 ea c n l r fun s3 I3 => wpAny_release ⟨σ, _, I3, q2⟩
/-- a or b, of any values -/
def tOrA (K : PySem.W.Frag) (ta tb : TE) : TE := fun σ H Q => ta σ H fun x H1 => ∃ c, TruV K x H1 c ∧ if c = true then Q x H1 else tb σ H1 Q
theorem pe_orA {a b : Expr} {rest : List Expr} {pos : Pos} {ta tb : TE} (ha : PE X a ta) (hb : PE X (.BoolOp .Or (b :: rest) pos) tb) : PE X (.BoolOp .Or (a :: b :: rest) pos) (tOrA X.K ta tb) := by
  intro pins s σ H Q I h
  refine BoolOp_or (thn (ha pins s σ H _ I h) fun v s1 ⟨x, H1, I1, r1, c, t1, q1⟩ => ?_)
  refine thn (tru_ok pins s1 σ H1 x v (fun k H2 => k = c ∧ H2 = H1) I1 r1 ⟨c, t1, rfl, rfl⟩) fun k s2 ⟨H2, I2, ek, eH⟩ => ?_
  subst ek; subst eH
  cases k with
  | false => exact hb pins s2 σ _ Q I2 q1
  | true => exact ⟨x, _, I2, r1, q1⟩
/-- is True, is False -/
theorem op_isB : OpR X (compareOp .Is) (fun x y H Q => ∃ c, y = .bl c ∧ Q (.bl (decide (x = .bl c))) H) := by
  intro pins s σ H x y v u Q I rx ry h
  obtain ⟨c, rfl, q⟩ := h
  cases ry
  have go : ∀ b, wpAny (model X.prog X.w) X.A (compareOp .Is v (.bool c)) = wpAny (model X.prog X.w) X.A (pure (.bool b)) → decide (x = .bl c) = b → wpAny (model X.prog X.w) X.A (compareOp .Is v (.bool c)) (EP X pins σ Q) X.xe s := by
    intro b e1 e2
    rw [e1]
    exact wpAny_pure (L2.fin_bl I q e2)
  cases x with
  | bl d => cases rx; exact go (d == c) (by cases c <;> cases d <;> rfl) (by cases c <;> cases d <;> rfl)
  | non => cases rx; exact go false rfl rfl
  | ref a => cases rx; exact go false rfl rfl
  | ty n => cases rx; exact go false rfl rfl
  | int i => obtain ⟨t, rfl⟩ := rx; exact go false rfl rfl
  | str i => obtain ⟨t, rfl⟩ := rx; exact go false rfl rfl
  | byt i => obtain ⟨t, rfl⟩ := rx; exact go false rfl rfl
  | flt i => obtain ⟨t, rfl⟩ := rx; exact go false rfl rfl
theorem op_notB : OpR X (compareOp .IsNot) (fun x y H Q => ∃ c, y = .bl c ∧ Q (.bl (!decide (x = .bl c))) H) := by
  intro pins s σ H x y v u Q I rx ry h
  obtain ⟨c, rfl, q⟩ := h
  cases ry
  have go : ∀ b, wpAny (model X.prog X.w) X.A (compareOp .IsNot v (.bool c)) = wpAny (model X.prog X.w) X.A (pure (.bool b)) → (!decide (x = .bl c)) = b → wpAny (model X.prog X.w) X.A (compareOp .IsNot v (.bool c)) (EP X pins σ Q) X.xe s := by
    intro b e1 e2
    rw [e1]
    exact wpAny_pure (L2.fin_bl I q e2)
  cases x with
  | bl d => cases rx; exact go (d != c) (by cases c <;> cases d <;> rfl) (by cases c <;> cases d <;> rfl)
  | non => cases rx; exact go true rfl rfl
  | ref a => cases rx; exact go true rfl rfl
  | ty n => cases rx; exact go true rfl rfl
  | int i => obtain ⟨t, rfl⟩ := rx; exact go true rfl rfl
  | str i => obtain ⟨t, rfl⟩ := rx; exact go true rfl rfl
  | byt i => obtain ⟨t, rfl⟩ := rx; exact go true rfl rfl
  | flt i => obtain ⟨t, rfl⟩ := rx; exact go true rfl rfl
/-! len of a dict with tuples as keys -/
theorem meets_len_raw {prog : Program} {w : World} (d : Addr) (hd : (d == sysModules) = false) :
    MeetsIn prog w (Builtin.«dict.__len__» ⟨[.ref d], []⟩) (fun _ R s => ∃ o es ep, s.heap.get? d = some o ∧ o.data = .dict es ep ∧ R (.ok (.ret (.int es.size s.toks))) { s with toks := s.toks + 1 }) :=
  .of_wp fun A R s ⟨o, es, ep, ho, hdat, h⟩ => by
    show wpAny _ _ (dictSize d >>= _) _ _ s
    unfold dictSize
    refine wpAny_bind (wpAny_bind (wpAny_dictEntries ho hdat (wpAny_pure ?_)))
    show wpAny _ _ (Builtin.Dict.pendingCount d >>= _) _ _ s
    refine wpAny_bind (wpAny_pendingCount_other hd ?_)
    refine wpAny_ret_mkInt ?_
    rw [Nat.add_zero]; exact h
theorem len_body_raw {prog : Program} {w : World} {A : Around} {E : Value → Shared → Prop} {s : Shared} {d : Addr} {o : Obj} {es : Array DictEntry} {ep : Nat} {Q : Value → Shared → Prop} (hd : (d == sysModules) = false) (ht : s.TypeIs (.ref d) "dict") (ho : s.heap.get? d = some o) (hdat : o.data = .dict es ep) (hfit : (es.size : Int) < 2 ^ 63)
    (h : Q (.int es.size (s.toks + 1)) { s with toks := s.toks + 1 + 1 }) : wpAny (model prog w) A (Builtin.«len» ⟨[.ref d], []⟩) (fun fin s' => ∃ r, fin = .done (.ret r) ∧ Q r s') E s := by
  unfold Builtin.«len»
  refine wpAny_bind (m := oneArg "len" _) (wpAny_pure ?_)
  refine wpAny_bind (m := callSpecial? (.ref d) (Str.ofString "__len__")) (wpAny_callSpecial?_slot (name := Str.ofString "__len__") ht PySem.F.slot_dict_len
    (call_meetsIn PySem.F.slot_dict_len ht PySem.F.entry_dict_len (PySem.F.args_dict_len_1 _) (meets_len_raw d hd) ⟨o, es, ep, ho, hdat, ?_⟩))
  show wpAny _ _ _ _ _ { s with toks := s.toks + 1 }
  refine wpAny_bind (wpAny_holding (wpAny_pure ?_))
  refine wpAny_bind (wpAny_letGo ?_)
  show wpAny _ _ (if ((es.size : Nat) : Int) < 0 then _ else _) _ _ _
  rw [if_neg (by omega)]
  show wpAny _ _ (if ((es.size : Nat) : Int) ≥ 2 ^ 63 then _ else _) _ _ _
  rw [if_neg (by omega)]
  exact wpAny_bind (wpAny_mkInt (wpAny_pure ⟨_, rfl, h⟩))
theorem KT_len {H : Hp} {kvs : List (List Key × V)} {xs : List (List Key × Addr × Value)} (r : L2.KT H kvs xs) : kvs.length = xs.length := by
  induction r with
  | nil => rfl
  | cons _ _ ih => simp [ih]
theorem call_lenDT : CallR X (.builtin "len") (fun xs H Q => ∃ a kvs, xs = [V.ref a] ∧ H a = some (.dT kvs) ∧ Q (.int kvs.length) H) := by
  intro pins s σ H xs us Q I r h
  obtain ⟨a, kvs, rfl, ha, q⟩ := h
  obtain ⟨u, rfl, ru⟩ := vals1 r
  cases ru
  obtain ⟨z, hd, xs, rel, dd⟩ := dt_rd I.hok (.inl ha)
  have ht := dd.typeIs
  obtain ⟨o, es, ep, h1, h2, h3, h4, _⟩ := dd
  have e : es.size = kvs.length := by rw [size_of_entries h4, ← KT_len rel]
  refine Calls.call_function_entry kind_len plain_len entry_len (args_len1 _) (len_body_raw hd ht h1 h3 (by rw [e]; rw [sizeLine_eq] at z; omega) ?_)
  rw [e]
  exact ⟨.int kvs.length, H, I.tok _, ⟨_, rfl⟩, q⟩
/-! isinstance(x, (a, b, ..)) -/
theorem kitx_ty {pins : List (Addr × Obj)} {σ : L2.St} {H : Hp} {s : Shared} {x : V} {u t : Value} (J : Inv X pins σ H s) (rx : RelV x u) (ty : TyOf X.K H x t) :
    ∃ G : Heap → Prop, PySem.W.KitX X.K u t G ∧ G s.heap ∧ u ≠ .builtin "__main__.__loader__#opaque" := by
  cases ty
  case non => cases rx; exact ⟨_, PySem.W.kitx_none, trivial, nofun⟩
  case bl => cases rx; exact ⟨_, PySem.W.kitx_bool, trivial, nofun⟩
  case int => obtain ⟨_, rfl⟩ := rx; exact ⟨_, PySem.W.kitx_int, trivial, nofun⟩
  case str => obtain ⟨_, rfl⟩ := rx; exact ⟨_, PySem.W.kitx_str, trivial, nofun⟩
  case flt => obtain ⟨_, rfl⟩ := rx; exact ⟨_, PySem.W.kitx_float, trivial, nofun⟩
  case lst q =>
    cases rx
    have g := J.hok _ _ q
    obtain ⟨_, its, k, _, g⟩ := g
    exact ⟨_, PySem.W.kitx_list, ⟨_, g, rfl⟩, nofun⟩
  case frz q =>
    cases rx
    have g := J.hok _ _ q
    obtain ⟨_, _, its, k, _, g⟩ := g
    exact ⟨_, PySem.W.kitx_list, ⟨_, g, rfl⟩, nofun⟩
  case tup q =>
    cases rx
    have g := J.hok _ _ q
    obtain ⟨_, its, _, ob, g1, g2, _⟩ := g
    exact ⟨_, PySem.W.kitx_tuple, ⟨ob, g1, g2⟩, nofun⟩
  case dK q =>
    cases rx
    have g := J.hok _ _ q
    obtain ⟨_, _, vs, _, ob, es, ep, g1, g2, _⟩ := g
    exact ⟨_, PySem.W.kitx_dict, ⟨ob, g1, g2.1⟩, nofun⟩
  case dT q =>
    cases rx
    have g := J.hok _ _ q
    obtain ⟨_, _, ps, _, ob, es, ep, g1, g2, _⟩ := g
    exact ⟨_, PySem.W.kitx_dict, ⟨ob, g1, g2.1⟩, nofun⟩
  case ins q c p1 p2 p3 p4 =>
    cases rx
    obtain ⟨m, O, _⟩ := ins_get J.hok q
    obtain ⟨_, g, _⟩ := O.look
    exact ⟨_, PySem.W.kitx_own (c.get _) c.hd p1 p2 p3 p4, g, nofun⟩
theorem isinstT_ok {pins : List (Addr × Obj)} {σ : L2.St} {H : Hp} {s : Shared} {A : Around} {E : Value → Shared → Prop} {Q : Value → Shared → Prop} {c : Bool} {x : V} {u t : Value} {tp : Addr} {its : List Value} (J : Inv X pins σ H s) (rx : RelV x u) (ty : TyOf X.K H x t) (hT : IsTup s.heap tp its.toArray)
    (e : PySem.W.kitAny X.K t its = some c) (q : ∀ tk, Q (.bool c) { s with toks := tk }) : wpAny (model X.prog X.w) A (call (.builtin "isinstance") [u, .ref tp]) Q E s := by
  obtain ⟨G, k, g, ne⟩ := kitx_ty J rx ty
  obtain ⟨⟨cl, dd, da, sl⟩, g1, g2, n, g3⟩ := hT
  simp only at g2 g3
  subst g2; subst g3
  exact PySem.W.kia_tup k J.kIn g g1 e ne q
/-! x[::-1] of a list -/
def rRev (K : PySem.W.Frag) : V → V → Hp → VK → Prop := fun x m H Q => m = .int (-1) ∧ ∃ a xs, x = .ref a ∧ SqL K H a xs ∧ ∀ p, H p = none → Q (.ref p) (upd H p (.lst xs.reverse))
theorem pe_rev {e m : Expr} {te tm : TE} {pos p2 : Pos} (he : PE X e te) (hm : PE X m tm) : PE X (.Subscript e (.Slice none none (some m) p2) pos) (fun σ H Q => te σ H fun x H1 => tm σ H1 fun y H2 => rRev X.K x y H2 Q) := by
  intro pins s σ H Q I h
  refine Subscript_ (thn (he pins s σ H _ I h) fun v s1 ⟨x, H1, I1, r1, q1⟩ => ?_)
  refine wpAny_Slice ?_
  rw [evalPart_none]
  refine wpAny_pure ?_
  refine wpAny_pure ?_
  rw [evalPart_some]
  refine thn (hm pins s1 σ H1 _ I1 q1) fun vm s3 ⟨y, H3, I3, ry, q3⟩ => ?_
  obtain ⟨rfl, a, xs, rfl, hx, q⟩ := q3
  cases r1
  obtain ⟨t, rfl⟩ := ry
  have I4 : Inv X pins σ H3 { s3 with heap := s3.heap.push { cls := .type "slice", data := .fields #[.none, .none, .int (-1) t] } } := I3.kept (t' := s3.toks) fun b ob q => Heap.get?_push_of_some _ q
  obtain ⟨its, r, ht, hz⟩ := I4.list hx
  have hlen := r.length
  have hg : wpAny (model X.prog X.w) X.A (getItem (.ref a) (.ref s3.heap.objs.size)) (EP X pins σ Q) X.xe { s3 with heap := s3.heap.push { cls := .type "slice", data := .fields #[.none, .none, .int (-1) t] } } := by
    refine wpAny_getItem_list_slice ht.isList (Heap.IsSliceOf.new ..) .none .none (.int (-1) t) (by decide) ?_ (by rw [List.size_toArray] <;> omega)
    rw [PySem.W.krv_pick]
    refine ⟨.ref _, _, I4.laid (t' := s3.toks) (o := .lst xs.reverse) (fun b ob q => Heap.get?_push_of_some _ q) (Nat.le_refl _) ?_, rfl, q _ (I4.hok.fresh (Nat.le_refl _))⟩
    exact ⟨by rw [List.length_reverse]; exact hz, _, 0, r.reverse, Heap.get?_push_size _ rfl⟩
  show wpAny (model X.prog X.w) X.A (subscriptTail e (.Slice none none (some m) p2) (.ref a) (.ref s3.heap.objs.size)) (EP X pins σ Q) X.xe { s3 with heap := s3.heap.push { cls := .type "slice", data := .fields #[.none, .none, .int (-1) t] } }
  exact tail_any (ops := [.ref a, .ref s3.heap.objs.size]) ht.isList.typeIs slot_list_getitem.lookup hg (by with_unfolding_all rfl)
end
end R

end

section
set_option Elab.async false
set_option linter.all false
/-! The runner, part A: a small language with a total evaluator over abstract values and heaps. -/
namespace R
open PySem PySem.Spec L2

/-- a value: tuples and settled lists are trees; own: a list that one slot alone holds; peek: such a list, looked at; ref: an object of the abstract heap -/
inductive AV where
  | non | bl (b : Bool) | int (i : Int) | str (x : Str)
  | tup (xs : List AV) | lst (xs : List AV) | kl (xs : List AV) | own (xs : List AV) | peek (xs : List AV)
  | ref (n : Nat) | top (v : V)
  deriving Inhabited
/-- an object that may still change -/
inductive AO where
  | lst (xs : List AV) | dk (kvs : List (Key × AV)) | dt (kvs : List (List Key × AV)) | ins (c : Nat) (fs : List (Str × AV))
  deriving Inhabited
abbrev AH := List AO
abbrev AS := List (Option AV)

inductive Res (α : Type) where
  | ok (a : α) (h : AH) | exc (c : Nat) (h : AH) | stuck
def Res.bind {α β : Type} (r : Res α) (f : α → AH → Res β) : Res β :=
  match r with
  | .ok a h => f a h
  | .exc c h => .exc c h
  | .stuck => .stuck

/-- how a new list is kept -/
inductive Kd where | fz | hp | ow
  deriving DecidableEq
inductive B2 where | add | sub | mul | fdiv | mod | pow | shl | shr | band | bor
  deriving DecidableEq
inductive C2 where | eq | ne | lt | le | gt | ge | isN | notN | isB | notB
  deriving DecidableEq
inductive Bt where | int | bool | str | list | tuple | dict
  deriving DecidableEq
inductive Bl where | len | abs | min | max | sum | list | tuple | int | all | any
  deriving DecidableEq

mutual
inductive E where
  | var (i : Nat) | cst (v : AV) | gcs (x : Str) (v : AV)
  | bin (o : B2) (k : Kd) (a b : E) | neg (a : E)
  | cmp (o : C2) (a b : E) | cmp2 (o o' : C2) (a b c : E)
  | and (a b : E) | or (a b : E) | not (a : E) | ite (c : T) (a b : E)
  | tup (es : Es) | lst (k : Kd) (es : Es)
  | idx (a i : E) | slc (k : Kd) (a : E) (lo hi : Eo)
  | call (f : Nat) (es : Es) | blt (b : Bl) (k : Kd) (es : Es)
  | comp (k : Kd) (t : Tg) (it : It) (c : To) (e : E) (vs : List Nat) | orL (a b : E) | slcT (a : E) (lo hi : Eo) | rev (k : Kd) (a m : E) | isiT (a : E) (ts : List Bt)
  | isi (a : E) (t : Bt) | app (o a : E) | dnew (tk : Bool) | din (neg : Bool) (k d : E) | dget (d k : E) | inS (neg : Bool) (a b : E) | strD (a : E)
  | fld (a : E) (f : Str) (cs : List Nat) | make (c fi : Nat) (es : Es) | meth (o : E) (m : Str) (alts : List (Nat × Nat)) (es : Es) | isc (a : E) (k : Nat) (yes no : List Nat)
inductive T where | val (e : E) | and (a b : T) | or (a b : T) | not (a : T)
inductive To where | no | so (t : T)
inductive Es where | nil | cons (e : E) (es : Es)
inductive Eo where | no | so (e : E)
inductive It where | each (e : E) | rng1 (a : E) | rng2 (a b : E) | enum (a : E) | zip (a b : E) | rng3 (a b c : E)
inductive Tg where | nm (i : Nat) | tp (ts : Tgs)
inductive Tgs where | nil | cons (t : Tg) (ts : Tgs)
end
mutual
inductive S where
  | never | pass | brk | cont | retN | ret (e : E) | expr (e : E)
  | set (i : Nat) (e : E) | asg (t : Tg) (e : E) | par (ts : List Nat) (es : Es) | aug (o : B2) (i : Nat) (e : E) | asgF (ts : List (Nat × Str × List Nat)) (e : E) | augIx (o : B2) (x i e : E) | extOwn (j : Nat) (e : E)
  | dput (d k e : E) | setFld (o : E) (f : Str) (cs : List Nat) (e : E) | augFld (b : B2) (o : E) (f : Str) (cs : List Nat) (e : E) | setIx (o i e : E) | setOwn (j : Nat) (i e : E) | appOwn (j : Nat) (e : E) | frz (j : Nat) | pub (j : Nat)
  | ifs (c : T) (a b : Ss) | fore (t : Tg) (it : It) (b : Ss) | whil (c : T) (b : Ss)
inductive Ss where | nil | cons (s : S) (r : Ss)
end
inductive Fl where | nx (σ : AS) | bk (σ : AS) | ct (σ : AS) | rt (v : AV)

def lim : Nat := 1000000
/-- a new list -/
def mkL (k : Kd) (xs : List AV) (h : AH) : Res AV :=
  if xs.length ≤ lim then
    match k with
    | .fz => .ok (.lst xs) h
    | .hp => .ok (.ref h.length) (h ++ [.lst xs])
    | .ow => .ok (.own xs) h
  else .stuck
/-- it may be kept anywhere -/
def keepable : AV → Bool
  | .own _ => false
  | .peek _ => false
  | _ => true
def rdL (h : AH) : AV → Option (List AV)
  | .lst xs => some xs
  | .kl xs => some xs
  | .own xs => some xs
  | .peek xs => some xs
  | .ref n => match h[n]? with
    | some (.lst xs) => some xs
    | _ => none
  | _ => none
def revV (k : Kd) (x y : AV) (h : AH) : Res AV := match y with
  | .int i => if i = -1 then (match rdL h x with
    | some xs => mkL k xs.reverse h
    | none => .stuck) else .stuck
  | _ => .stuck
/-- a list that the program itself made -/
def rdM (h : AH) : AV → Option (List AV)
  | .kl _ => none
  | v => rdL h v
def rdQ (h : AH) : AV → Option (List AV)
  | .tup xs => some xs
  | v => rdL h v
/-- the data that stand behind a value -/
def toD : Nat → AH → AV → Option PyData
  | 0, _, _ => none
  | n + 1, h, v => match v with
    | .non => some .none
    | .bl b => some (.bool b)
    | .int i => some (.int i)
    | .str x => if x.cps.all (· < 0x110000) then some (.str x) else none
    | .tup xs => (xs.mapM (toD n h)).map .tuple
    | v => match rdL h v with
      | some xs => (xs.mapM (toD n h)).map .list
      | none => none
def tgSlots : Tg → List Nat
  | .nm i => [i]
  | .tp ts => go ts
where go : Tgs → List Nat
  | .nil => []
  | .cons t ts => tgSlots t ++ go ts
/-- a key of a dict -/
def keyOf : AV → Option Key
  | .int i => some (.inl i)
  | .str x => some (.inr x)
  | _ => none
def keysOf : List AV → Option (List Key)
  | [] => some []
  | v :: vs => match keyOf v, keysOf vs with
    | some k, some ks => some (k :: ks)
    | _, _ => none
def valA {κ : Type} [DecidableEq κ] (kvs : List (κ × AV)) (k : κ) : Option AV := (kvs.find? fun kv => decide (kv.1 = k)).map (·.2)
def putD {κ : Type} [DecidableEq κ] (kvs : List (κ × AV)) (k : κ) (v : AV) : List (κ × AV) :=
  if (kvs.any fun kv => decide (kv.1 = k)) = true then kvs.map (fun kv => if kv.1 = k then (kv.1, v) else kv) else kvs ++ [(k, v)]
/-- what the dict d holds at k -/
def dLook (h : AH) (d k : AV) : Option (Option AV) := match d with
  | .ref n => match h[n]? with
    | some (.dk kvs) => (keyOf k).map (valA kvs)
    | some (.dt kvs) => match k with
      | .tup xs => (keysOf xs).map (valA kvs)
      | _ => none
    | _ => none
  | _ => none
/-- the heap behind d[k] = v -/
def dPut (h : AH) (d k v : AV) : Option AH := if keepable v = false then none else match d with
  | .ref n => match h[n]? with
    | some (.dk kvs) => if kvs.length < lim then (keyOf k).map fun k => h.set n (.dk (putD kvs k v)) else none
    | some (.dt kvs) => if kvs.length < lim then match k with
      | .tup xs => (keysOf xs).map fun k => h.set n (.dt (putD kvs k v))
      | _ => none
      else none
    | _ => none
  | _ => none
/-- o.append(v) -/
def appH (h : AH) (o v : AV) : Option AH := if keepable v = false then none else match o with
  | .ref n => match h[n]? with
    | some (.lst xs) => if xs.length < lim then some (h.set n (.lst (xs ++ [v]))) else none
    | _ => none
  | _ => none
/-- flat things -/
def flatOf : AV → Option V
  | .non => some .non
  | .bl b => some (.bl b)
  | .int i => some (.int i)
  | .str x => some (.str x)
  | _ => none
def flatsOf : List AV → Option (List V)
  | [] => some []
  | v :: vs => match flatOf v, flatsOf vs with
    | some k, some ks => some (k :: ks)
    | _, _ => none
def inQ (h : AH) (x y : AV) : Option Bool := match flatOf x, (rdQ h y).bind flatsOf with
  | some u, some us => some (inV u us)
  | _, _ => match toD 8 h x, toD 8 h y with
    | some d, some (.list ds) => some (ds.any fun e => PyData.eqv e d)
    | some d, some (.tuple ds) => some (ds.any fun e => PyData.eqv e d)
    | _, _ => none
/-- the built-in class of a value -/
def tyA (h : AH) : AV → Option String
  | .non => some "NoneType"
  | .bl _ => some "bool"
  | .int _ => some "int"
  | .str _ => some "str"
  | .tup _ => some "tuple"
  | .lst _ => some "list"
  | .own _ => some "list"
  | .peek _ => some "list"
  | .ref n => match h[n]? with
    | some (.lst _) => some "list"
    | some (.dk _) => some "dict"
    | some (.dt _) => some "dict"
    | _ => none
  | _ => none
def btName : Bt → String
  | .int => "int" | .bool => "bool" | .str => "str" | .list => "list" | .tuple => "tuple" | .dict => "dict"
def isT (t : String) (c : Bt) : Bool := match c with
  | .int => t == "int" || t == "bool"
  | c => t == btName c
def clsOf (h : AH) (x : AV) : Option Nat := match x with
  | .ref n => match h[n]? with
    | some (.ins c _) => some c
    | _ => none
  | _ => none
/-- an attribute of an instance -/
def fldV (h : AH) (x : AV) (f : Str) (cs : List Nat) : Option AV := match x with
  | .ref n => match h[n]? with
    | some (.ins c fs) => if cs.contains c then fs.lookup f else none
    | _ => none
  | _ => none
def putFA (f : Str) (v : AV) : List (Str × AV) → List (Str × AV)
  | [] => [(f, v)]
  | (g, x) :: r => if g = f then (g, v) :: r else (g, x) :: putFA f v r
def setFldV (h : AH) (x : AV) (f : Str) (cs : List Nat) (v : AV) : Option AH := if keepable v = false then none else match x with
  | .ref n => match h[n]? with
    | some (.ins c fs) => if cs.contains c = true ∧ fs.length < 1000 then some (h.set n (.ins c (putFA f v fs))) else none
    | _ => none
  | _ => none
/-- the def that a method's name means -/
def methD (h : AH) (x : AV) (m : Str) (alts : List (Nat × Nat)) : Option Nat := match x with
  | .ref n => match h[n]? with
    | some (.ins c fs) => if (fs.lookup m).isNone then alts.lookup c else none
    | _ => none
  | _ => none
def iscV (h : AH) (x : AV) (yes no : List Nat) : Option Bool := match tyA h x with
  | some _ => some false
  | none => match x with
    | .ref n => match h[n]? with
      | some (.ins c _) => if yes.contains c then some true else if no.contains c then some false else none
      | _ => none
    | _ => none
/-- str(v) -/
def strV (h : AH) (v : AV) : Option Str := match v with
  | .int i => if i.natAbs.log2 < 1920 then some (toString i) else none
  | .tup xs => match toD 8 h (.tup xs) with
    | some d => if d.showable = true ∧ d.shown.length ≤ lim then some d.shown else none
    | none => none
  | v => match rdL h v, toD 8 h v with
    | some _, some d => if d.showable = true ∧ d.shown.length ≤ lim then some d.shown else none
    | _, _ => none
/-- bounds by Nat.ble: the kernel stops at once at a letter -/
def small (i : Int) : Bool := Nat.ble i.natAbs 18446744073709551615
def rgOk (i : Int) : Bool := Nat.ble i.natAbs 4611686018427387903
def rpOk (i : Int) : Bool := Nat.ble i.natAbs 999
/-- a divisor that is positive and not beyond 9000 bits -/
def fdOk (j : Int) : Bool := decide (0 < j) && Nat.ble j.natAbs.log2 8999
def pwOk (i j : Int) : Bool := decide (0 ≤ j) && Nat.ble ((i.natAbs.log2 + 1) * j.toNat) 134217728
def shOk (i j : Int) : Bool := decide (0 ≤ j) && Nat.ble j.toNat 1000000 && Nat.ble i.natAbs.log2 999999
/-- an operator in place, of ints -/
def iopI (o : B2) (i j : Int) : Option Int := match o with
  | .add => some (i + j)
  | .sub => some (i - j)
  | .mul => if small i || small j then some (i * j) else none
  | .shl => if shOk i j then some (i * 2 ^ j.toNat) else none
  | .band => some (Builtin.bitAnd i j)
  | .bor => some (Builtin.bitOr i j)
  | _ => none
def bin2 (o : B2) (k : Kd) (x y : AV) (h : AH) : Res AV :=
  match o, x, y with
  | .add, .int i, .int j => .ok (.int (i + j)) h
  | .add, .tup xs, .tup ys => if xs.length + ys.length ≤ lim ∧ xs ≠ [] ∧ ys ≠ [] then .ok (.tup (xs ++ ys)) h else .stuck
  | .add, x, y => match rdM h x, rdM h y with
    | some xs, some ys => mkL k (xs ++ ys) h
    | _, _ => .stuck
  | .sub, .int i, .int j => .ok (.int (i - j)) h
  | .mul, .int i, .int j => if small i || small j then .ok (.int (i * j)) h else .stuck
  | .mul, x, .int j => match rdM h x with
    | some xs => if rpOk j then mkL k (List.replicate j.toNat xs).flatten h else .stuck
    | _ => .stuck
  | .fdiv, .int i, .int j => if fdOk j then .ok (.int (i / j)) h else .stuck
  | .mod, .int i, .int j => if 0 < j then .ok (.int (i % j)) h else .stuck
  | .pow, .int i, .int j => if pwOk i j then .ok (.int (i ^ j.toNat)) h else .stuck
  | .shl, .int i, .int j => if shOk i j then .ok (.int (i * 2 ^ j.toNat)) h else .stuck
  | .shr, .int i, .int j => if 0 ≤ j then .ok (.int (i / 2 ^ j.toNat)) h else .stuck
  | .band, .int i, .int j => .ok (.int (Builtin.bitAnd i j)) h
  | .bor, .int i, .int j => .ok (.int (Builtin.bitOr i j)) h
  | _, _, _ => .stuck
def isNon : AV → Option Bool
  | .non => some true
  | .top _ => none
  | _ => some false
def isBl (c : Bool) : AV → Option Bool
  | .bl b => some (b == c)
  | .top _ => none
  | _ => some false
def cmp2v (o : C2) (x y : AV) (h : AH) : Option Bool :=
  match o with
  | .lt => match x, y with
    | .int i, .int j => some (decide (i < j))
    | _, _ => none
  | .le => match x, y with
    | .int i, .int j => some (decide (i ≤ j))
    | _, _ => none
  | .gt => match x, y with
    | .int i, .int j => some (decide (j < i))
    | _, _ => none
  | .ge => match x, y with
    | .int i, .int j => some (decide (j ≤ i))
    | _, _ => none
  | .eq => match toD 8 h x, toD 8 h y with
    | some d, some e => some (PyData.eqv d e)
    | _, _ => none
  | .ne => match toD 8 h x, toD 8 h y with
    | some d, some e => some (!PyData.eqv d e)
    | _, _ => none
  | .isN => match y with
    | .non => isNon x
    | _ => none
  | .notN => match y with
    | .non => (isNon x).map (!·)
    | _ => none
  | .isB => match y with
    | .bl c => isBl c x
    | _ => none
  | .notB => match y with
    | .bl c => (isBl c x).map (!·)
    | _ => none
def truth (h : AH) : AV → Option Bool
  | .non => some false
  | .bl b => some b
  | .int i => some (i != 0)
  | v => match rdQ h v with
    | some xs => some (!xs.isEmpty)
    | none => none
def intsOf : List AV → Option (List Int)
  | [] => some []
  | .int i :: r => (intsOf r).map (i :: ·)
  | _ => none
def boolsOf : List AV → Option (List Bool)
  | [] => some []
  | .bl i :: r => (boolsOf r).map (i :: ·)
  | _ => none
def bltv (b : Bl) (k : Kd) (vs : List AV) (h : AH) : Res AV :=
  match b, vs with
  | .len, [v] => match rdQ h v with
    | some xs => .ok (.int xs.length) h
    | none => match v with
      | .ref n => match h[n]? with
        | some (.dk kvs) => .ok (.int kvs.length) h
        | some (.dt kvs) => .ok (.int kvs.length) h
        | _ => .stuck
      | _ => .stuck
  | .abs, [.int i] => .ok (.int (if i < 0 then -i else i)) h
  | .min, [.int i, .int j] => .ok (.int (if j < i then j else i)) h
  | .max, [.int i, .int j] => .ok (.int (if j > i then j else i)) h
  | .sum, [v] => match (rdL h v).bind intsOf with
    | some ns => .ok (.int ns.sum) h
    | none => .stuck
  | .list, [v] => match rdQ h v with
    | some xs => mkL k xs h
    | none => .stuck
  | .tuple, [v] => match rdQ h v with
    | some xs => .ok (.tup xs) h
    | none => .stuck
  | .int, [.int i] => .ok (.int i) h
  | .int, [.bl c] => .ok (.int (if c then 1 else 0)) h
  | .all, [v] => match (rdL h v).bind boolsOf with
    | some bs => .ok (.bl (bs.all id)) h
    | none => .stuck
  | .any, [v] => match (rdL h v).bind boolsOf with
    | some bs => .ok (.bl (bs.any id)) h
    | none => .stuck
  | _, _ => .stuck
/-- a target takes a value -/
def setT : Tg → AV → AS → Option AS
  | .nm i, v, σ => if keepable v && decide (i < σ.length) then some (σ.set i (some v)) else none
  | .tp ts, .tup xs, σ => setTs ts xs σ
  | .tp _, _, _ => none
where setTs : Tgs → List AV → AS → Option AS
  | .nil, [], σ => some σ
  | .cons t ts, x :: xs, σ => match setT t x σ with
    | some σ' => setTs ts xs σ'
    | none => none
  | _, _, _ => none
def wipeA (σ : AS) : List Nat → AS
  | [] => σ
  | v :: vs => (wipeA σ vs).set v none
/-- what is walked: how many at the start; at each turn: none it can't be told, some none it is over -/
structure Wk where
  n : Nat
  st : Bool
  item : AH → Nat → Option (Option AV)
def wkEach (v : AV) (h : AH) : Option Wk := (rdQ h v).map fun xs => ⟨xs.length, keepable v, fun h i => (rdQ h v).map (·[i]?)⟩
def wkRng (lo : Int) (n : Nat) : Wk := ⟨n, true, fun _ i => some (if i < n then some (.int (lo + i)) else none)⟩
def wkEnum (v : AV) (h : AH) : Option Wk := (rdL h v).map fun xs => ⟨xs.length, keepable v, fun h i => (rdL h v).map fun xs => xs[i]?.map fun x => .tup [.int i, x]⟩
def wkZip (v w : AV) (h : AH) : Option Wk :=
  match rdL h v, rdL h w with
  | some xs, some ys => some ⟨min xs.length ys.length, keepable v && keepable w, fun h i => match rdL h v, rdL h w with
    | some xs, some ys => some (match xs[i]?, ys[i]? with
      | some x, some y => some (.tup [x, y])
      | _, _ => none)
    | _, _ => none⟩
  | _, _ => none
def wkRngC (lo c : Int) (n : Nat) : Wk := ⟨n, true, fun _ i => some (if i < n then some (.int (lo + i * c)) else none)⟩
/-- the turns of a comprehension -/
def compGo (item : AH → Nat → Option (Option AV)) (turn : AV → AH → Res (Option AV)) : Nat → Nat → List AV → AH → Res (List AV)
  | 0, i, acc, h => match item h i with
    | some none => .ok acc h
    | _ => .stuck
  | n + 1, i, acc, h => match item h i with
    | none => .stuck
    | some none => .ok acc h
    | some (some v) => (turn v h).bind fun o h' => match o with
      | some y => compGo item turn n (i + 1) (acc ++ [y]) h'
      | none => compGo item turn n (i + 1) acc h'
/-- the turns of a for -/
def forGo (item : AH → Nat → Option (Option AV)) (turn : AV → AS → AH → Res Fl) : Nat → Nat → AS → AH → Res Fl
  | 0, i, σ, h => match item h i with
    | some none => .ok (.nx σ) h
    | _ => .stuck
  | n + 1, i, σ, h => match item h i with
    | none => .stuck
    | some none => .ok (.nx σ) h
    | some (some v) => (turn v σ h).bind fun f h' => match f with
      | .nx σ' => forGo item turn n (i + 1) σ' h'
      | .ct σ' => forGo item turn n (i + 1) σ' h'
      | .bk σ' => .ok (.nx σ') h'
      | .rt v => .ok (.rt v) h'
def whileGo (test : AS → AH → Res Bool) (turn : AS → AH → Res Fl) : Nat → AS → AH → Res Fl
  | 0, _, _ => .stuck
  | n + 1, σ, h => (test σ h).bind fun b h1 => match b with
    | false => .ok (.nx σ) h1
    | true => (turn σ h1).bind fun f h' => match f with
      | .nx σ' => whileGo test turn n σ' h'
      | .ct σ' => whileGo test turn n σ' h'
      | .bk σ' => .ok (.nx σ') h'
      | .rt v => .ok (.rt v) h'
def ofOpt {α : Type} (o : Option α) (h : AH) : Res α := match o with
  | some a => .ok a h
  | none => .stuck
/-- nothing may be raised here -/
def Res.nox {α : Type} (r : Res α) : Res α := match r with
  | .exc _ _ => .stuck
  | r => r
def isPeek : AV → Bool
  | .peek _ => true
  | _ => false
def setN : List Nat → List AV → AS → Option AS
  | [], [], σ => some σ
  | i :: is, v :: vs, σ => if i < σ.length ∧ isPeek v = false then setN is vs (σ.set i (some v)) else none
  | _, _, _ => none
def peeked : AV → AV
  | .own xs => .peek xs
  | v => v
/-- fields of objects that slots hold take values, one after another -/
def setFs : List (Nat × Str × List Nat) → List AV → AS → AH → Option AH
  | [], [], _, h => some h
  | (i, f, cs) :: ts, v :: vs, σ, h => match σ[i]? with
    | some (some x) => if keepable x then match setFldV h x f cs v with
      | some h1 => setFs ts vs σ h1
      | none => none
      else none
    | _ => none
  | _, _, _, _ => none
abbrev Cl := Nat → List AV → AH → Res AV
mutual
def ev (cl : Cl) : E → AS → AH → Res AV
  | .var i, σ, h => match σ[i]? with
    | some (some v) => .ok (peeked v) h
    | _ => .stuck
  | .cst v, _, h => .ok v h
  | .gcs _ v, _, h => .ok v h
  | .bin o k a b, σ, h => (ev cl a σ h).bind fun x h1 => (ev cl b σ h1).bind fun y h2 => bin2 o k x y h2
  | .neg a, σ, h => (ev cl a σ h).bind fun x h1 => match x with
    | .int i => .ok (.int (-i)) h1
    | _ => .stuck
  | .cmp o a b, σ, h => (ev cl a σ h).bind fun x h1 => (ev cl b σ h1).bind fun y h2 => (ofOpt (cmp2v o x y h2) h2).bind fun c h3 => .ok (.bl c) h3
  | .cmp2 o o' a b c, σ, h => (ev cl a σ h).bind fun x h1 => (ev cl b σ h1).bind fun y h2 => (ofOpt (cmp2v o x y h2) h2).bind fun k h3 => match k with
    | false => .ok (.bl false) h3
    | true => (ev cl c σ h3).bind fun z h4 => (ofOpt (cmp2v o' y z h4) h4).bind fun k' h5 => .ok (.bl k') h5
  | .and a b, σ, h => (ev cl a σ h).bind fun x h1 => match x with
    | .bl true => ev cl b σ h1
    | .bl false => .ok (.bl false) h1
    | _ => .stuck
  | .or a b, σ, h => (ev cl a σ h).bind fun x h1 => match x with
    | .bl true => .ok (.bl true) h1
    | .bl false => ev cl b σ h1
    | _ => .stuck
  | .not a, σ, h => (ev cl a σ h).bind fun x h1 => match x with
    | .bl c => .ok (.bl (!c)) h1
    | _ => .stuck
  | .ite c a b, σ, h => (evT cl c σ h).bind fun k h1 => match k with
    | true => ev cl a σ h1
    | false => ev cl b σ h1
  | .tup es, σ, h => (evs cl es σ h).bind fun xs h1 => if xs.length ≤ lim then .ok (.tup xs) h1 else .stuck
  | .lst k es, σ, h => (evs cl es σ h).bind fun xs h1 => mkL k xs h1
  | .idx a i, σ, h => (ev cl a σ h).bind fun x h1 => (ev cl i σ h1).bind fun y h2 => match rdQ h2 x, y with
    | some xs, .int k => ofOpt (atI xs k) h2
    | _, _ => .stuck
  | .slc k a lo hi, σ, h => (ev cl a σ h).bind fun x h1 => (evo cl lo σ h1).bind fun l h2 => (evo cl hi σ h2).bind fun u h3 => match rdL h3 x with
    | some xs => mkL k ((xs.drop (HT.sIx xs.length 0 l)).take (HT.sIx xs.length xs.length u - HT.sIx xs.length 0 l)) h3
    | none => .stuck
  | .call f es, σ, h => (evs cl es σ h).bind fun xs h1 => cl f xs h1
  | .blt b k es, σ, h => (evp cl es σ h).bind fun xs h1 => bltv b k xs h1
  | .comp k t it c e vs, σ, h => (evI cl it σ h).bind fun w h1 => if lim < w.n then .stuck else
      (compGo w.item (fun v h2 => ((ofOpt (setT t v (wipeA σ vs)) h2).bind fun σ2 h3 => (evc cl c σ2 h3).bind fun b h4 => match b with
        | false => .ok none h4
        | true => (ev cl e σ2 h4).bind fun y h5 => if keepable y then .ok (some y) h5 else .stuck).nox) w.n 0 [] h1).bind fun xs h2 => mkL k xs h2
  | .orL a b, σ, h => (ev cl a σ h).bind fun x h1 => (ofOpt (truth h1 x) h1).bind fun c h2 => match c with
    | true => if keepable x then .ok x h2 else .stuck
    | false => ev cl b σ h2
  | .slcT a lo hi, σ, h => (ev cl a σ h).bind fun x h1 => (evo cl lo σ h1).bind fun l h2 => (evo cl hi σ h2).bind fun u h3 => match x with
    | .tup xs => if HT.sIx xs.length 0 l = 0 ∧ HT.sIx xs.length xs.length u = xs.length then .stuck else .ok (.tup ((xs.drop (HT.sIx xs.length 0 l)).take (HT.sIx xs.length xs.length u - HT.sIx xs.length 0 l))) h3
    | _ => .stuck
  | .isiT a ts, σ, h => (ev cl a σ h).bind fun x h1 => (ofOpt (tyA h1 x) h1).bind fun n h2 => .ok (.bl (ts.any fun t => isT n t)) h2
  | .rev k a m, σ, h => (ev cl a σ h).bind fun x h1 => (ev cl m σ h1).bind fun y h2 => revV k x y h2
  | .isi a t, σ, h => (ev cl a σ h).bind fun x h1 => (ofOpt (tyA h1 x) h1).bind fun n h2 => .ok (.bl (isT n t)) h2
  | .app o a, σ, h => (ev cl o σ h).bind fun x h1 => (ofOpt (rdL h1 x) h1).bind fun _ _ => (ev cl a σ h1).bind fun v h2 => (ofOpt (appH h2 x v) h2).bind fun h3 _ => .ok .non h3
  | .dnew tk, _, h => .ok (.ref h.length) (h ++ [if tk then .dt [] else .dk []])
  | .din neg k d, σ, h => (ev cl k σ h).bind fun y h1 => (ev cl d σ h1).bind fun x h2 => (ofOpt (dLook h2 x y) h2).bind fun o h3 => .ok (.bl (if neg then !o.isSome else o.isSome)) h3
  | .dget d k, σ, h => (ev cl d σ h).bind fun x h1 => (ev cl k σ h1).bind fun y h2 => (ofOpt (dLook h2 x y) h2).bind fun o h3 => ofOpt o h3
  | .inS neg a b, σ, h => (ev cl a σ h).bind fun x h1 => (ev cl b σ h1).bind fun y h2 => (ofOpt (inQ h2 x y) h2).bind fun c h3 => .ok (.bl (if neg then !c else c)) h3
  | .strD a, σ, h => (ev cl a σ h).bind fun x h1 => (ofOpt (strV h1 x) h1).bind fun t h2 => .ok (.str t) h2
  | .fld a f cs, σ, h => (ev cl a σ h).bind fun x h1 => ofOpt (fldV h1 x f cs) h1
  | .make c fi es, σ, h => (evs cl es σ h).bind fun xs h1 => (cl fi (.ref h1.length :: xs) (h1 ++ [.ins c []])).bind fun v h2 => match v with
    | .non => .ok (.ref h1.length) h2
    | _ => .stuck
  | .meth o m alts es, σ, h => (ev cl o σ h).nox.bind fun x h1 => (ofOpt (methD h1 x m alts) h1).bind fun f _ => (evs cl es σ h1).bind fun xs h2 => cl f (x :: xs) h2
  | .isc a _ yes no, σ, h => (ev cl a σ h).bind fun x h1 => (ofOpt (iscV h1 x yes no) h1).bind fun c h2 => .ok (.bl c) h2
def evs (cl : Cl) : Es → AS → AH → Res (List AV)
  | .nil, _, h => .ok [] h
  | .cons e es, σ, h => (ev cl e σ h).bind fun x h1 => if keepable x then (evs cl es σ h1).bind fun xs h2 => .ok (x :: xs) h2 else .stuck
/-- arguments that are looked at and not kept -/
def evp (cl : Cl) : Es → AS → AH → Res (List AV)
  | .nil, _, h => .ok [] h
  | .cons e es, σ, h => (ev cl e σ h).bind fun x h1 => (evp cl es σ h1).bind fun xs h2 => .ok (x :: xs) h2
/-- values of which each may be a slot's own -/
def evn (cl : Cl) : Es → AS → AH → Res (List AV)
  | .nil, _, h => .ok [] h
  | .cons e es, σ, h => (ev cl e σ h).bind fun x h1 => if isPeek x then .stuck else (evn cl es σ h1).bind fun xs h2 => .ok (x :: xs) h2
def evo (cl : Cl) : Eo → AS → AH → Res (Option Int)
  | .no, _, h => .ok none h
  | .so e, σ, h => (ev cl e σ h).bind fun x h1 => match x with
    | .int i => .ok (some i) h1
    | _ => .stuck
/-- a comprehension's test -/
def evc (cl : Cl) : To → AS → AH → Res Bool
  | .no, _, h => .ok true h
  | .so e, σ, h => evT cl e σ h
def evI (cl : Cl) : It → AS → AH → Res Wk
  | .each e, σ, h => (ev cl e σ h).bind fun x h1 => ofOpt (wkEach x h1) h1
  | .rng1 a, σ, h => (ev cl a σ h).bind fun x h1 => match x with
    | .int j => if rgOk j then .ok (wkRng 0 j.toNat) h1 else .stuck
    | _ => .stuck
  | .rng2 a b, σ, h => (ev cl a σ h).bind fun x h1 => (ev cl b σ h1).bind fun y h2 => match x, y with
    | .int i, .int j => if rgOk i && rgOk j then .ok (wkRng i (j - i).toNat) h2 else .stuck
    | _, _ => .stuck
  | .enum a, σ, h => (ev cl a σ h).bind fun x h1 => ofOpt (wkEnum x h1) h1
  | .rng3 a b c, σ, h => (ev cl a σ h).bind fun x h1 => (ev cl b σ h1).bind fun y h2 => (ev cl c σ h2).bind fun z h3 => match x, y, z with
    | .int i, .int j, .int k => if decide (k = -1) && rgOk i && rgOk j then .ok (wkRngC i k (i - j).toNat) h3 else .stuck
    | _, _, _ => .stuck
  | .zip a b, σ, h => (ev cl a σ h).bind fun x h1 => (ev cl b σ h1).bind fun y h2 => ofOpt (wkZip x y h2) h2
/-- a test -/
def evT (cl : Cl) : T → AS → AH → Res Bool
  | .and a b, σ, h => (evT cl a σ h).bind fun c h1 => match c with
    | true => evT cl b σ h1
    | false => .ok false h1
  | .or a b, σ, h => (evT cl a σ h).bind fun c h1 => match c with
    | true => .ok true h1
    | false => evT cl b σ h1
  | .not a, σ, h => (evT cl a σ h).bind fun c h1 => .ok (!c) h1
  | .val e, σ, h => (ev cl e σ h).bind fun x h1 => ofOpt (truth h1 x) h1
end
end R
namespace R
open PySem PySem.Spec L2
mutual
def ex (cl : Cl) (W : Nat) : S → AS → AH → Res Fl
  | .never, _, _ => .stuck
  | .pass, σ, h => .ok (.nx σ) h
  | .brk, σ, h => .ok (.bk σ) h
  | .cont, σ, h => .ok (.ct σ) h
  | .retN, _, h => .ok (.rt .non) h
  | .ret e, σ, h => (ev cl e σ h).bind fun v h1 => if keepable v then .ok (.rt v) h1 else .stuck
  | .expr e, σ, h => (ev cl e σ h).bind fun _ h1 => .ok (.nx σ) h1
  | .set i e, σ, h => (ev cl e σ h).bind fun v h1 => if isPeek v then .stuck else if i < σ.length then .ok (.nx (σ.set i (some v))) h1 else .stuck
  | .par ts es, σ, h => (evn cl es σ h).bind fun vs h1 => (ofOpt (setN ts vs σ) h1).bind fun σ' h2 => .ok (.nx σ') h2
  | .aug o i e, σ, h => match σ[i]? with
    | some (some (.int x)) => (ev cl e σ h).bind fun v h1 => match v with
      | .int y => (ofOpt (iopI o x y) h1).bind fun z h2 => .ok (.nx (σ.set i (some (.int z)))) h2
      | _ => .stuck
    | _ => .stuck
  | .asgF ts e, σ, h => (ev cl e σ h).bind fun v h1 => match v with
    | .tup vs => (ofOpt (setFs ts vs σ h1) h1).bind fun h2 _ => .ok (.nx σ) h2
    | _ => .stuck
  | .augIx o x i e, σ, h => (ev cl x σ h).bind fun v h1 => (ev cl i σ h1).bind fun k h2 => match v, k with
    | .ref n, .int k => match h2[n]? with
      | some (.lst xs) => match atI xs k with
        | some (.int a) => (ev cl e σ h2).bind fun w h3 => match w with
          | .int b => (ofOpt (iopI o a b) h3).bind fun z _ => match h3[n]? with
            | some (.lst ys) => match ixN ys.length k with
              | some j => .ok (.nx σ) (h3.set n (.lst (ys.set j (.int z))))
              | none => .stuck
            | _ => .stuck
          | _ => .stuck
        | _ => .stuck
      | _ => .stuck
    | _, _ => .stuck
  | .extOwn j e, σ, h => match σ[j]? with
    | some (some (.own _)) => (ev cl e σ h).bind fun v h1 => match σ[j]?, rdM h1 v with
      | some (some (.own xs)), some ys => if xs.length + ys.length ≤ lim then .ok (.nx (σ.set j (some (.own (xs ++ ys))))) h1 else .stuck
      | _, _ => .stuck
    | _ => .stuck
  | .asg t e, σ, h => (ev cl e σ h).bind fun v h1 => (ofOpt (setT t v σ) h1).bind fun σ' h2 => .ok (.nx σ') h2
  | .setFld o f cs e, σ, h => (ev cl e σ h).bind fun v h1 => (ev cl o σ h1).bind fun x h2 => (ofOpt (setFldV h2 x f cs v) h2).bind fun h3 _ => .ok (.nx σ) h3
  | .augFld b o f cs e, σ, h => (ev cl o σ h).bind fun x h1 => (ofOpt (fldV h1 x f cs) h1).bind fun v _ => match v with
    | .int i => (ev cl e σ h1).bind fun w h2 => match w with
      | .int j => if clsOf h2 x = clsOf h1 x then (ofOpt (iopI b i j) h2).bind fun z _ => (ofOpt (setFldV h2 x f cs (.int z)) h2).bind fun h3 _ => .ok (.nx σ) h3 else .stuck
      | _ => .stuck
    | _ => .stuck
  | .dput d k e, σ, h => (ev cl e σ h).bind fun v h1 => (ev cl d σ h1).bind fun x h2 => (ev cl k σ h2).bind fun y h3 => (ofOpt (dPut h3 x y v) h3).bind fun h4 _ => .ok (.nx σ) h4
  | .setIx o i e, σ, h => (ev cl e σ h).bind fun v h1 => (ev cl o σ h1).bind fun x h2 => (ev cl i σ h2).bind fun y h3 => match x, y with
    | .ref n, .int k => match h3[n]? with
      | some (.lst xs) => match ixN xs.length k, keepable v with
        | some j, true => .ok (.nx σ) (h3.set n (.lst (xs.set j v)))
        | _, _ => .stuck
      | _ => .stuck
    | _, _ => .stuck
  | .setOwn j i e, σ, h => match σ[j]? with
    | some (some (.own xs)) => (ev cl e σ h).bind fun v h1 => (ev cl i σ h1).bind fun y h2 => match y with
      | .int k => match ixN xs.length k with
        | some p => if keepable v then .ok (.nx (σ.set j (some (.own (xs.set p v))))) h2 else .stuck
        | none => .stuck
      | _ => .stuck
    | _ => .stuck
  | .appOwn j e, σ, h => match σ[j]? with
    | some (some (.own xs)) => (ev cl e σ h).bind fun v h1 => if xs.length < lim ∧ keepable v = true then .ok (.nx (σ.set j (some (.own (xs ++ [v]))))) h1 else .stuck
    | _ => .stuck
  | .frz j, σ, h => match σ[j]? with
    | some (some (.own xs)) => .ok (.nx (σ.set j (some (.lst xs)))) h
    | _ => .ok (.nx σ) h
  | .pub j, σ, h => match σ[j]? with
    | some (some (.own xs)) => .ok (.nx (σ.set j (some (.ref h.length)))) (h ++ [.lst xs])
    | _ => .ok (.nx σ) h
  | .ifs c a b, σ, h => (evT cl c σ h).bind fun k h1 => match k with
    | true => exs cl W a σ h1
    | false => exs cl W b σ h1
  | .fore t it b, σ, h => (evI cl it σ h).bind fun w h1 => if w.st = false then .stuck else
      forGo w.item (fun v σ h => (ofOpt (setT t v σ) h).bind fun σ' h' => exs cl W b σ' h') w.n 0 σ h1
  | .whil c b, σ, h => whileGo (fun σ h => evT cl c σ h) (fun σ h => exs cl W b σ h) W σ h
def exs (cl : Cl) (W : Nat) : Ss → AS → AH → Res Fl
  | .nil, σ, h => .ok (.nx σ) h
  | .cons s r, σ, h => (ex cl W s σ h).bind fun f h1 => match f with
    | .nx σ' => exs cl W r σ' h1
    | f => .ok f h1
end
structure Df where
  np : Nat
  nn : Nat
  body : Ss
def startA (nn : Nat) (vs : List AV) : AS := vs.map some ++ List.replicate (nn - vs.length) none
/-- the call of a def by its number, n calls deep at most -/
def callD (P : List Df) (W : Nat) : Nat → Cl
  | 0, _, _, _ => .stuck
  | n + 1, f, vs, h => match P[f]? with
    | some d => if vs.length = d.np then (exs (callD P W n) W d.body (startA d.nn vs) h).bind fun fl h1 => match fl with
      | .rt v => .ok v h1
      | .nx _ => .ok .non h1
      | _ => .stuck
      else .stuck
    | none => .stuck
end R

end

section
set_option Elab.async false
set_option linter.all false
/-! The runner, part B: how abstract values and heaps stand for the model's. -/
namespace R
open PySem PySem.Spec L2

/-- a list, a tuple of the module's own text -/
def KL (K : PySem.W.Frag) (a : Addr) (xs : List V) : Prop := ∃ (o : Obj) (its : Array Value) (n : Nat), K.lookup a = some o ∧ o.cls = .type "list" ∧ o.dict = none ∧ o.data = .seq its n ∧ its.size ≤ sizeLine ∧ Vals xs its.toList
def KT (K : PySem.W.Frag) (a : Addr) (xs : List V) : Prop := ∃ (o : Obj) (its : Array Value) (n : Nat), K.lookup a = some o ∧ o.cls = .type "tuple" ∧ o.data = .seq its n ∧ its.size ≤ sizeLine ∧ Vals xs its.toList
/-- the addresses of the heap's objects; what is settled for ever -/
structure Ab where
  ρ : List Addr
  F : Addr → Prop
mutual
inductive RelA (K : PySem.W.Frag) (b : Ab) (H : Hp) : AV → V → Prop
  | non : RelA K b H .non .non
  | bl (c : Bool) : RelA K b H (.bl c) (.bl c)
  | int (i : Int) : RelA K b H (.int i) (.int i)
  | str (x : Str) : RelA K b H (.str x) (.str x)
  | tup {a : Addr} {xs : List AV} {ys : List V} (hF : b.F a) (h : H a = some (.tup ys)) (r : RelAs K b H xs ys) : RelA K b H (.tup xs) (.ref a)
  | lst {a : Addr} {xs : List AV} {ys : List V} (hF : b.F a) (h : H a = some (.lst ys)) (r : RelAs K b H xs ys) : RelA K b H (.lst xs) (.ref a)
  | klF {a : Addr} {xs : List AV} {ys : List V} {o : Obj} (hF : b.F a) (h : H a = some (.frz o (.lst ys))) (r : RelAs K b H xs ys) : RelA K b H (.kl xs) (.ref a)
  | klK {a : Addr} {xs : List AV} {ys : List V} (h : KL K a ys) (r : RelAs K b H xs ys) : RelA K b H (.kl xs) (.ref a)
  | ref {a : Addr} {n : Nat} (h : b.ρ[n]? = some a) : RelA K b H (.ref n) (.ref a)
  | top (v : V) : RelA K b H (.top v) v
inductive RelAs (K : PySem.W.Frag) (b : Ab) (H : Hp) : List AV → List V → Prop
  | nil : RelAs K b H [] []
  | cons {x : AV} {y : V} {xs : List AV} {ys : List V} (r : RelA K b H x y) (rs : RelAs K b H xs ys) : RelAs K b H (x :: xs) (y :: ys)
end
/-- later: nothing is gone, what was settled is as it was, only the heap's objects may have changed -/
structure Ext (b : Ab) (H : Hp) (b' : Ab) (H' : Hp) : Prop where
  pre : b.ρ <+: b'.ρ
  newρ : ∀ a ∈ b'.ρ, a ∈ b.ρ ∨ H a = none
  fr : ∀ a, b.F a → b'.F a
  newF : ∀ a, b'.F a → b.F a ∨ H a = none
  keep : ∀ a o, H a = some o → a ∉ b.ρ → H' a = some o
  dom : ∀ a, H' a = none → H a = none
def RelO (K : PySem.W.Frag) (cls : Nat → Addr) (b : Ab) (H : Hp) (o : AO) (ho : Option HO) : Prop :=
  match o with
  | .lst xs => ∃ ys, ho = some (.lst ys) ∧ RelAs K b H xs ys
  | .dk kvs => ∃ kws, ho = some (.dK kws) ∧ Paired (fun (p : Key × AV) (q : Key × V) => p.1 = q.1 ∧ RelA K b H p.2 q.2) kvs kws
  | .dt kvs => ∃ kws, ho = some (.dT kws) ∧ Paired (fun (p : List Key × AV) (q : List Key × V) => p.1 = q.1 ∧ RelA K b H p.2 q.2) kvs kws
  | .ins c fs => ∃ dx gs, ho = some (.ins (cls c) dx gs) ∧ Paired (fun (p : Str × AV) (q : Str × V) => p.1 = q.1 ∧ RelA K b H p.2 q.2) fs gs
structure Rep (K : PySem.W.Frag) (cls : Nat → Addr) (b : Ab) (h : AH) (H : Hp) : Prop where
  len : b.ρ.length = h.length
  nd : b.ρ.Nodup
  nf : ∀ a ∈ b.ρ, ¬ b.F a
  fs : ∀ a, b.F a → ∃ o, H a = some o
  ob : ∀ (n : Nat) (o : AO) (a : Addr), h[n]? = some o → b.ρ[n]? = some a → RelO K cls b H o (H a)
theorem Ext.refl (b : Ab) (H : Hp) : Ext b H b H := ⟨List.prefix_refl _, fun _ h => .inl h, fun _ h => h, fun _ h => .inl h, fun _ _ h _ => h, fun _ h => h⟩
theorem Ext.trans {b b1 b2 : Ab} {H H1 H2 : Hp} (x : Ext b H b1 H1) (y : Ext b1 H1 b2 H2) : Ext b H b2 H2 where
  pre := x.pre.trans y.pre
  newρ := fun a ha => (y.newρ a ha).elim (x.newρ a) fun e => .inr (x.dom a e)
  fr := fun a h => y.fr a (x.fr a h)
  newF := fun a ha => (y.newF a ha).elim (x.newF a) fun e => .inr (x.dom a e)
  keep := fun a o e hn => y.keep a o (x.keep a o e hn) fun ha => (x.newρ a ha).elim hn fun z => by rw [e] at z; cases z
  dom := fun a e => x.dom a (y.dom a e)
/-- later, whatever was done to lists that slots own -/
structure WExt (b : Ab) (H : Hp) (b' : Ab) (H' : Hp) : Prop where
  pre : b.ρ <+: b'.ρ
  fr : ∀ a, b.F a → b'.F a
  keep : ∀ a o, b.F a → H a = some o → H' a = some o
theorem WExt.refl (b : Ab) (H : Hp) : WExt b H b H := ⟨List.prefix_refl _, fun _ h => h, fun _ _ _ h => h⟩
theorem WExt.trans {b b1 b2 : Ab} {H H1 H2 : Hp} (x : WExt b H b1 H1) (y : WExt b1 H1 b2 H2) : WExt b H b2 H2 :=
  ⟨x.pre.trans y.pre, fun a h => y.fr a (x.fr a h), fun a o h e => y.keep a o (x.fr a h) (x.keep a o h e)⟩
theorem Ext.w {b b' : Ab} {H H' : Hp} (nf : ∀ a ∈ b.ρ, ¬ b.F a) (x : Ext b H b' H') : WExt b H b' H' := ⟨x.pre, x.fr, fun a o h e => x.keep a o e fun z => nf a z h⟩
section
variable {K : PySem.W.Frag} {cls : Nat → Addr} {b b' : Ab} {H H' : Hp}
mutual
theorem RelA.monoW (x : WExt b H b' H') : ∀ {v : AV} {u : V}, RelA K b H v u → RelA K b' H' v u
  | _, _, .non => .non
  | _, _, .bl c => .bl c
  | _, _, .int i => .int i
  | _, _, .str y => .str y
  | _, _, .tup hF h r => .tup (x.fr _ hF) (x.keep _ _ hF h) (RelAs.monoW x r)
  | _, _, .lst hF h r => .lst (x.fr _ hF) (x.keep _ _ hF h) (RelAs.monoW x r)
  | _, _, .klF hF h r => .klF (x.fr _ hF) (x.keep _ _ hF h) (RelAs.monoW x r)
  | _, _, .klK h r => .klK h (RelAs.monoW x r)
  | _, _, .ref h => .ref (by
      obtain ⟨t, e⟩ := x.pre
      rw [← e, List.getElem?_append_left (List.getElem?_eq_some_iff.mp h).1]
      exact h)
  | _, _, .top v => .top v
theorem RelAs.monoW (x : WExt b H b' H') : ∀ {vs : List AV} {us : List V}, RelAs K b H vs us → RelAs K b' H' vs us
  | _, _, .nil => .nil
  | _, _, .cons r rs => .cons (RelA.monoW x r) (RelAs.monoW x rs)
end
theorem RelA.mono (nf : ∀ a ∈ b.ρ, ¬ b.F a) (x : Ext b H b' H') {v : AV} {u : V} (r : RelA K b H v u) : RelA K b' H' v u := r.monoW (x.w nf)
theorem RelAs.mono (nf : ∀ a ∈ b.ρ, ¬ b.F a) (x : Ext b H b' H') {v : List AV} {u : List V} (r : RelAs K b H v u) : RelAs K b' H' v u := r.monoW (x.w nf)
theorem RelAs.length : ∀ {vs : List AV} {us : List V}, RelAs K b H vs us → vs.length = us.length
  | _, _, .nil => rfl
  | _, _, .cons _ rs => by simp [RelAs.length rs]
theorem RelAs.get : ∀ {vs : List AV} {us : List V} {i : Nat} {v : AV}, RelAs K b H vs us → vs[i]? = some v → ∃ u, us[i]? = some u ∧ RelA K b H v u
  | _, _, _, _, .nil, e => by simp at e
  | _, _, 0, _, .cons r _, e => by simp at e; subst e; exact ⟨_, rfl, r⟩
  | _, _, i + 1, _, .cons _ rs, e => by
    obtain ⟨u, h1, h2⟩ := RelAs.get (i := i) rs (by simpa using e)
    exact ⟨u, by simpa using h1, h2⟩
theorem RelAs.append : ∀ {vs vs' : List AV} {us us' : List V}, RelAs K b H vs us → RelAs K b H vs' us' → RelAs K b H (vs ++ vs') (us ++ us')
  | _, _, _, _, .nil, s => s
  | _, _, _, _, .cons r rs, s => .cons r (rs.append s)
theorem RelAs.take : ∀ {vs : List AV} {us : List V} (n : Nat), RelAs K b H vs us → RelAs K b H (vs.take n) (us.take n)
  | _, _, 0, _ => .nil
  | _, _, _ + 1, .nil => .nil
  | _, _, n + 1, .cons r t => .cons r (RelAs.take n t)
theorem RelAs.drop : ∀ {vs : List AV} {us : List V} (n : Nat), RelAs K b H vs us → RelAs K b H (vs.drop n) (us.drop n)
  | _, _, 0, r => r
  | _, _, _ + 1, .nil => .nil
  | _, _, n + 1, .cons _ t => RelAs.drop n t
theorem RelAs.set {x : AV} {u : V} (r : RelA K b H x u) : ∀ {xs : List AV} {us : List V} (i : Nat), RelAs K b H xs us → RelAs K b H (xs.set i x) (us.set i u)
  | _, _, _, .nil => .nil
  | _, _, 0, .cons _ t => .cons r t
  | _, _, i + 1, .cons q t => .cons q (RelAs.set r i t)
theorem RelAs.rep {vs : List AV} {us : List V} (r : RelAs K b H vs us) : ∀ n : Nat, RelAs K b H (List.replicate n vs).flatten (List.replicate n us).flatten
  | 0 => .nil
  | n + 1 => by rw [List.replicate_succ, List.replicate_succ, List.flatten_cons, List.flatten_cons]; exact r.append (r.rep n)
theorem Paired.monoR {α : Type} {R R' : AV → V → Prop} (f : ∀ v u, R v u → R' v u) : ∀ {xs : List (α × AV)} {ys : List (α × V)}, Paired (fun p q => p.1 = q.1 ∧ R p.2 q.2) xs ys → Paired (fun p q => p.1 = q.1 ∧ R' p.2 q.2) xs ys :=
  fun h => Paired.imp' (fun _ _ z => ⟨z.1, f _ _ z.2⟩) h
theorem RelO.monoW (x : WExt b H b' H') {o : AO} {ho : Option HO} (r : RelO K cls b H o ho) : RelO K cls b' H' o ho := by
  cases o with
  | lst xs => obtain ⟨ys, e, r⟩ := r; exact ⟨ys, e, r.monoW x⟩
  | dk kvs => obtain ⟨ys, e, r⟩ := r; exact ⟨ys, e, Paired.monoR (fun _ _ z => z.monoW x) r⟩
  | dt kvs => obtain ⟨ys, e, r⟩ := r; exact ⟨ys, e, Paired.monoR (fun _ _ z => z.monoW x) r⟩
  | ins c fs => obtain ⟨dx, ys, e, r⟩ := r; exact ⟨dx, ys, e, Paired.monoR (fun _ _ z => z.monoW x) r⟩
theorem RelO.mono (nf : ∀ a ∈ b.ρ, ¬ b.F a) (x : Ext b H b' H') {o : AO} {ho : Option HO} (r : RelO K cls b H o ho) : RelO K cls b' H' o ho := r.monoW (x.w nf)
/-- a new thing, settled at once -/
theorem Rep.fz {h : AH} (R : Rep K cls b h H) {p : Addr} (hp : H p = none) (o : HO) : Ext b H ⟨b.ρ, fun a => b.F a ∨ a = p⟩ (upd H p o) ∧ Rep K cls ⟨b.ρ, fun a => b.F a ∨ a = p⟩ h (upd H p o) := by
  have x : Ext b H ⟨b.ρ, fun a => b.F a ∨ a = p⟩ (upd H p o) := ⟨List.prefix_refl _, fun _ z => .inl z, fun _ z => .inl z, fun a z => z.elim .inl fun e => .inr (by rw [e]; exact hp), fun a u e _ => by rw [upd_ne (ne_of_none e hp)]; exact e, fun a e => by
    by_cases ha : a = p
    · rw [ha]; exact hp
    · rw [upd_ne ha] at e; exact e⟩
  have np : ∀ (n : Nat) (u : AO) (a : Addr), h[n]? = some u → b.ρ[n]? = some a → a ≠ p := fun n u a e1 e2 z => by
    have q := R.ob n u a e1 e2
    rw [z, hp] at q
    cases u with
    | lst xs => obtain ⟨_, e, _⟩ := q; cases e
    | dk kvs => obtain ⟨_, e, _⟩ := q; cases e
    | dt kvs => obtain ⟨_, e, _⟩ := q; cases e
    | ins c fs => obtain ⟨_, _, e, _⟩ := q; cases e
  refine ⟨x, R.len, R.nd, fun a ha z => z.elim (R.nf a ha) fun e => ?_, fun a z => ?_, fun n u a e1 e2 => ?_⟩
  · obtain ⟨n, hn, e2⟩ := List.getElem_of_mem ha
    have hn' : n < h.length := by rw [← R.len]; exact hn
    exact np n h[n] a (List.getElem?_eq_getElem hn') (by rw [List.getElem?_eq_getElem hn]; exact congrArg some e2) e
  · by_cases ha : a = p
    · exact ⟨o, by rw [ha, upd_same]⟩
    · obtain ⟨u, e⟩ := R.fs a (z.resolve_right ha)
      exact ⟨u, by rw [upd_ne ha]; exact e⟩
  · rw [upd_ne (np n u a e1 e2)]
    exact (R.ob n u a e1 e2).mono R.nf x
/-- a new thing that nobody names: a list of its own -/
theorem Rep.ow {h : AH} (R : Rep K cls b h H) {p : Addr} (hp : H p = none) (o : HO) : Ext b H b (upd H p o) ∧ Rep K cls b h (upd H p o) ∧ ¬ b.F p ∧ p ∉ b.ρ := by
  have x : Ext b H b (upd H p o) := ⟨List.prefix_refl _, fun _ z => .inl z, fun _ z => z, fun a z => .inl z, fun a u e _ => by rw [upd_ne (ne_of_none e hp)]; exact e, fun a e => by
    by_cases ha : a = p
    · rw [ha]; exact hp
    · rw [upd_ne ha] at e; exact e⟩
  have np : ∀ (n : Nat) (u : AO) (a : Addr), h[n]? = some u → b.ρ[n]? = some a → a ≠ p := fun n u a e1 e2 z => by
    have q := R.ob n u a e1 e2
    rw [z, hp] at q
    cases u with
    | lst xs => obtain ⟨_, e, _⟩ := q; cases e
    | dk kvs => obtain ⟨_, e, _⟩ := q; cases e
    | dt kvs => obtain ⟨_, e, _⟩ := q; cases e
    | ins c fs => obtain ⟨_, _, e, _⟩ := q; cases e
  have nF : ¬ b.F p := fun z => by
    obtain ⟨u, e⟩ := R.fs p z
    rw [hp] at e; cases e
  refine ⟨x, ⟨R.len, R.nd, R.nf, fun a z => ?_, fun n u a e1 e2 => ?_⟩, nF, fun ha => ?_⟩
  · obtain ⟨u, e⟩ := R.fs a z
    exact ⟨u, by rw [upd_ne (ne_of_none e hp)]; exact e⟩
  · rw [upd_ne (np n u a e1 e2)]
    exact (R.ob n u a e1 e2).mono R.nf x
  · obtain ⟨n, hn, e2⟩ := List.getElem_of_mem ha
    have hn' : n < h.length := by rw [← R.len]; exact hn
    exact np n h[n] p (List.getElem?_eq_getElem hn') (by rw [List.getElem?_eq_getElem hn]; exact congrArg some e2) rfl
/-- a new object of the heap -/
theorem Rep.hp {h : AH} (R : Rep K cls b h H) {p : Addr} (hp : H p = none) {o : AO} {ho : HO} (ro : ∀ b' H', Ext b H b' H' → RelO K cls b' H' o (some ho)) :
    Ext b H ⟨b.ρ ++ [p], b.F⟩ (upd H p ho) ∧ Rep K cls ⟨b.ρ ++ [p], b.F⟩ (h ++ [o]) (upd H p ho) := by
  obtain ⟨_, _, nF, nρ⟩ := R.ow hp ho
  have x : Ext b H ⟨b.ρ ++ [p], b.F⟩ (upd H p ho) := ⟨List.prefix_append _ _, fun a z => (List.mem_append.mp z).elim .inl fun e => .inr (by rw [List.mem_singleton.mp e]; exact hp), fun _ z => z, fun a z => .inl z, fun a u e _ => by rw [upd_ne (ne_of_none e hp)]; exact e, fun a e => by
    by_cases ha : a = p
    · rw [ha]; exact hp
    · rw [upd_ne ha] at e; exact e⟩
  refine ⟨x, by simp [R.len], ?_, fun a ha => ?_, fun a z => ?_, fun n u a e1 e2 => ?_⟩
  · exact nd_snoc R.nd nρ
  · rcases List.mem_append.mp ha with z | z
    · exact R.nf a z
    · rw [List.mem_singleton.mp z]; exact nF
  · obtain ⟨u, e⟩ := R.fs a z
    exact ⟨u, by rw [upd_ne (ne_of_none e hp)]; exact e⟩
  · by_cases hn : n < h.length
    · rw [List.getElem?_append_left hn] at e1
      have e2 : b.ρ[n]? = some a := by rw [List.getElem?_append_left (by rw [R.len]; exact hn)] at e2; exact e2
      have ne : a ≠ p := fun z => nρ (by rw [← z]; exact List.mem_of_getElem? e2)
      rw [upd_ne ne]
      exact (R.ob n u a e1 e2).mono R.nf x
    · rw [List.getElem?_append_right (by omega)] at e1
      have e2 : [p][n - b.ρ.length]? = some a := by rw [List.getElem?_append_right (by rw [R.len]; omega)] at e2; exact e2
      have hl := R.len
      have h0 : n - h.length = 0 := by
        have := (List.getElem?_eq_some_iff.mp e1).1
        simp at this; omega
      rw [h0] at e1
      rw [hl, h0] at e2
      have e1 : o = u := Option.some.inj e1
      have e2 : p = a := Option.some.inj e2
      subst e1; subst e2
      rw [upd_same]
      exact ro _ _ x
/-- an object of the heap is changed -/
theorem Rep.wr {h : AH} (R : Rep K cls b h H) {n : Nat} {p : Addr} {o' : AO} {o ho : HO} (hn : b.ρ[n]? = some p) (hp : H p = some o) (ro : ∀ H', Ext b H b H' → RelO K cls b H' o' (some ho)) :
    Ext b H b (upd H p ho) ∧ Rep K cls b (h.set n o') (upd H p ho) := by
  have mem : p ∈ b.ρ := List.mem_of_getElem? hn
  have x : Ext b H b (upd H p ho) := ⟨List.prefix_refl _, fun _ z => .inl z, fun _ z => z, fun _ z => .inl z, fun a u e hne => by rw [upd_ne (fun z => hne (by rw [z]; exact mem))]; exact e, fun a e => by
    by_cases ha : a = p
    · rw [ha, upd_same] at e; cases e
    · rw [upd_ne ha] at e; exact e⟩
  refine ⟨x, by simp [R.len], R.nd, R.nf, fun a z => ?_, fun m u a e1 e2 => ?_⟩
  · obtain ⟨u, e⟩ := R.fs a z
    exact ⟨u, by rw [upd_ne (fun q => R.nf p mem (by rw [← q]; exact z))]; exact e⟩
  · by_cases hm : n = m
    · subst hm
      have hl := (List.getElem?_eq_some_iff.mp e1).1
      rw [List.getElem?_set_self (by simpa using hl)] at e1
      have e1 : o' = u := Option.some.inj e1
      have e3 : p = a := Option.some.inj (hn.symm.trans e2)
      subst e1; subst e3
      rw [upd_same]
      exact ro _ x
    · rw [List.getElem?_set_ne hm] at e1
      have ne : a ≠ p := fun z => hm (nd_ix R.nd (by rw [← z] at hn; exact hn) e2)
      rw [upd_ne ne]
      exact (R.ob m u a e1 e2).mono R.nf x
end

/-! ### runs and what is wanted of them -/
def Sim (K : PySem.W.Frag) (cls : Nat → Addr) {α : Type} (b : Ab) (H : Hp) (r : Res α) (k : Ab → AH → Hp → α → Prop) (E : XK) : Prop :=
  match r with
  | .ok a h' => ∀ b' H', Ext b H b' H' → Rep K cls b' h' H' → k b' h' H' a
  | .exc c h' => ∀ b' H' d, Ext b H b' H' → Rep K cls b' h' H' → E (.ref (cls c)) d H'
  | .stuck => False
section
variable {K : PySem.W.Frag} {cls : Nat → Addr} {α β : Type} {b : Ab} {H : Hp} {E : XK}
theorem Sim.mono {r : Res α} {k k' : Ab → AH → Hp → α → Prop} (s : Sim K cls b H r k E) (f : ∀ b' h' H' a, Ext b H b' H' → Rep K cls b' h' H' → k b' h' H' a → k' b' h' H' a) : Sim K cls b H r k' E := by
  cases r with
  | ok a h' => exact fun b' H' x R => f _ _ _ _ x R (s b' H' x R)
  | exc c h' => exact s
  | stuck => exact s
theorem Sim.bind {r : Res α} {f : α → AH → Res β} {k : Ab → AH → Hp → β → Prop} (s : Sim K cls b H (r.bind f) k E) : Sim K cls b H r (fun b1 h1 H1 a => Sim K cls b1 H1 (f a h1) k E) E := by
  cases r with
  | ok a h1 =>
    intro b1 H1 x1 R1
    have s' : Sim K cls b H (f a h1) k E := s
    revert s'
    cases f a h1 with
    | ok c h2 => exact fun s b2 H2 x2 R2 => s b2 H2 (x1.trans x2) R2
    | exc c h2 => exact fun s b2 H2 d x2 R2 => s b2 H2 d (x1.trans x2) R2
    | stuck => exact fun s => s
  | exc c h' => exact s
  | stuck => exact s
theorem Sim.here {a : α} {h : AH} {k : Ab → AH → Hp → α → Prop} (R : Rep K cls b h H) (s : Sim K cls b H (.ok a h) k E) : k b h H a := s b H (Ext.refl _ _) R
end
/-- a value that is being used: also a list that a slot owns, or that nobody owns yet -/
def RelT (K : PySem.W.Frag) (b : Ab) (H : Hp) (v : AV) (u : V) : Prop :=
  match v with
  | .own xs => ∃ a ys, u = .ref a ∧ ¬ b.F a ∧ a ∉ b.ρ ∧ H a = some (.lst ys) ∧ RelAs K b H xs ys
  | .peek xs => ∃ a ys, u = .ref a ∧ ¬ b.F a ∧ a ∉ b.ρ ∧ H a = some (.lst ys) ∧ RelAs K b H xs ys
  | v => RelA K b H v u
section
variable {K : PySem.W.Frag} {cls : Nat → Addr} {b b' : Ab} {H H' : Hp} {v : AV} {u : V}
theorem RelT.of (r : RelA K b H v u) : RelT K b H v u := by
  cases v with
  | own xs => cases r
  | peek xs => cases r
  | _ => exact r
theorem RelT.keep (k : keepable v = true) (r : RelT K b H v u) : RelA K b H v u := by
  cases v <;> first | exact r | cases k
theorem RelT.own_mono {xs : List AV} (nf : ∀ a ∈ b.ρ, ¬ b.F a) (x : Ext b H b' H') (r : ∃ a ys, u = .ref a ∧ ¬ b.F a ∧ a ∉ b.ρ ∧ H a = some (.lst ys) ∧ RelAs K b H xs ys) :
    ∃ a ys, u = .ref a ∧ ¬ b'.F a ∧ a ∉ b'.ρ ∧ H' a = some (.lst ys) ∧ RelAs K b' H' xs ys := by
  obtain ⟨a, ys, e, hF, hρ, h, r⟩ := r
  exact ⟨a, ys, e, fun z => (x.newF _ z).elim hF fun e => (by rw [h] at e; cases e), fun z => (x.newρ _ z).elim hρ fun e => (by rw [h] at e; cases e), x.keep _ _ h hρ, r.mono nf x⟩
theorem RelT.mono (nf : ∀ a ∈ b.ρ, ¬ b.F a) (x : Ext b H b' H') (r : RelT K b H v u) : RelT K b' H' v u := by
  cases v with
  | own xs => exact RelT.own_mono nf x r
  | peek xs => exact RelT.own_mono nf x r
  | _ => exact RelA.mono nf x r
theorem RelT.peeked (r : RelT K b H v u) : RelT K b H (peeked v) u := by
  cases v <;> exact r
end
/-- the slots, as an expression sees them -/
structure Sr (K : PySem.W.Frag) (b : Ab) (H : Hp) (σ : AS) (σc : St) : Prop where
  len : σ.length = σc.length
  rel : ∀ (i : Nat) (v : AV), σ[i]? = some (some v) → ∃ u, σc[i]? = some (some u) ∧ RelT K b H v u
theorem Sr.mono {K : PySem.W.Frag} {b b' : Ab} {H H' : Hp} {σ : AS} {σc : St} (nf : ∀ a ∈ b.ρ, ¬ b.F a) (x : Ext b H b' H') (s : Sr K b H σ σc) : Sr K b' H' σ σc :=
  ⟨s.len, fun i v e => let ⟨u, h1, h2⟩ := s.rel i v e; ⟨u, h1, h2.mono nf x⟩⟩
/-- what is wanted behind an expression: of a list that is kept nowhere yet it is also told that it is new -/
def kW (K : PySem.W.Frag) (H : Hp) (Q : VK) : Ab → AH → Hp → AV → Prop := fun b' _ H' v => ∀ u, RelT K b' H' v u → (∀ xs a, v = .own xs → u = .ref a → H a = none) → Q u H'
def tR (K : PySem.W.Frag) (cls : Nat → Addr) (E : XK) (f : AS → AH → Res AV) : TE := fun σc H Q => ∃ b h σ, Rep K cls b h H ∧ Sr K b H σ σc ∧ Sim K cls b H (f σ h) (kW K H Q) E
def tRT (K : PySem.W.Frag) (cls : Nat → Addr) (E : XK) (f : AS → AH → Res Bool) : TT := fun σc H Q => ∃ b h σ, Rep K cls b h H ∧ Sr K b H σ σc ∧ Sim K cls b H (f σ h) (fun _ _ H' c => Q c H') E
/-- arguments: each may be kept -/
def tRA (K : PySem.W.Frag) (cls : Nat → Addr) (E : XK) (f : AS → AH → Res (List AV)) : TA := fun σc H Q => ∃ b h σ, Rep K cls b h H ∧ Sr K b H σ σc ∧ Sim K cls b H (f σ h) (fun b' _ H' vs => ∀ us, RelAs K b' H' vs us → Q us H') E
/-- arguments that are looked at -/
def RelTs (K : PySem.W.Frag) (b : Ab) (H : Hp) : List AV → List V → Prop := Paired (RelT K b H)
def tRP (K : PySem.W.Frag) (cls : Nat → Addr) (E : XK) (f : AS → AH → Res (List AV)) : TA := fun σc H Q => ∃ b h σ, Rep K cls b h H ∧ Sr K b H σ σc ∧ Sim K cls b H (f σ h) (fun b' _ H' vs => ∀ us, RelTs K b' H' vs us → Q us H') E
def tRO (K : PySem.W.Frag) (cls : Nat → Addr) (E : XK) (f : AS → AH → Res (Option Int)) : TO := fun σc H Q => ∃ b h σ, Rep K cls b h H ∧ Sr K b H σ σc ∧ Sim K cls b H (f σ h) (fun _ _ H' o => Q o H') E
section
variable {X : Cx} {e : Expr}
theorem PE.mono {t t' : TE} (h : PE X e t) (m : ∀ σ H Q, t' σ H Q → t σ H Q) : PE X e t' := fun pins s σ H Q I q => h pins s σ H Q I (m σ H Q q)
theorem PT.mono {t t' : TT} (h : PT X e t) (m : ∀ σ H Q, t' σ H Q → t σ H Q) : PT X e t' := fun pins s σ H Q I q => h pins s σ H Q I (m σ H Q q)
theorem PA.mono {es : List Expr} {t t' : TA} (h : PA X es t) (m : ∀ σ H Q, t' σ H Q → t σ H Q) : PA X es t' := fun pos pins s σ H Q I q => h pos pins s σ H Q I (m σ H Q q)
theorem PO.mono {eo : Option Expr} {t t' : TO} (h : PO X eo t) (m : ∀ σ H Q, t' σ H Q → t σ H Q) : PO X eo t' := fun pins s σ H Q I q => h pins s σ H Q I (m σ H Q q)
theorem PS.mono {st : Stmt} {t t' : TS} (h : PS X st t) (m : ∀ D σ H, t' D σ H → t D σ H) : PS X st t' := fun pins s σ H D I q => h pins s σ H D I (m D σ H q)
end
end R

end

section
set_option Elab.async false
set_option linter.all false
/-! The runner, part C: each operation keeps the picture. -/
namespace R
open PySem PySem.Spec L2
section
variable {K : PySem.W.Frag} {cls : Nat → Addr} {b : Ab} {h : AH} {H H0 : Hp} {E : XK} {Q : VK}

theorem lim_le {n : Nat} (h : n ≤ lim) : n ≤ sizeLine := Nat.le_trans h (by decide)
theorem lim_lt {n : Nat} (h : n ≤ lim) : n < sizeLine := Nat.lt_of_le_of_lt h (by decide)
theorem relT_bl (c : Bool) : RelT K b H (.bl c) (.bl c) := RelT.of (.bl c)
theorem relT_int (i : Int) : RelT K b H (.int i) (.int i) := RelT.of (.int i)
/-- a value that is at hand is handed on -/
theorem fin_keep {v : AV} {u : V} (R : Rep K cls b h H) (s : Sim K cls b H (.ok v h) (kW K H0 Q) E) (r : RelT K b H v u) (k : ∀ xs, v ≠ .own xs) : Q u H := s.here R u r fun xs _ e => absurd e (k xs)
theorem fin_bl {c : Bool} (R : Rep K cls b h H) (s : Sim K cls b H (.ok (.bl c) h) (kW K H0 Q) E) : Q (.bl c) H := fin_keep R s (relT_bl c) fun _ e => by cases e
theorem fin_int {c : Int} (R : Rep K cls b h H) (s : Sim K cls b H (.ok (.int c) h) (kW K H0 Q) E) : Q (.int c) H := fin_keep R s (relT_int c) fun _ e => by cases e
/-- a new list is laid -/
theorem mkL_step {k : Kd} {xs : List AV} {ys : List V} {p : Addr} (R : Rep K cls b h H) (rs : RelAs K b H xs ys) (s : Sim K cls b H (mkL k xs h) (kW K H0 Q) E) (hp : H p = none) (h0 : H0 p = none) : Q (.ref p) (upd H p (.lst ys)) := by
  unfold mkL at s
  by_cases hl : xs.length ≤ lim
  · rw [if_pos hl] at s
    cases k with
    | fz =>
      obtain ⟨x, R'⟩ := R.fz hp (.lst ys)
      exact s _ _ x R' _ (RelA.lst (.inr rfl) upd_same (rs.mono R.nf x)) fun _ _ e => by cases e
    | hp =>
      obtain ⟨x, R'⟩ := R.hp (o := .lst xs) (ho := .lst ys) hp fun b' H' x => ⟨ys, rfl, rs.mono R.nf x⟩
      refine s _ _ x R' _ (RelA.ref ?_) fun _ _ e => by cases e
      show (b.ρ ++ [p])[h.length]? = some p
      rw [← R.len]; simp
    | ow =>
      obtain ⟨x, R', nF, nρ⟩ := R.ow hp (.lst ys)
      exact s _ _ x R' _ ⟨p, ys, rfl, nF, nρ, upd_same, rs.mono R.nf x⟩ fun _ a _ e => by cases e; exact h0
  · rw [if_neg hl] at s
    exact s.elim
theorem mkL_len {k : Kd} {xs : List AV} {kk : Ab → AH → Hp → AV → Prop} (s : Sim K cls b H (mkL k xs h) kk E) : xs.length ≤ lim := by
  unfold mkL at s
  by_cases hl : xs.length ≤ lim
  · exact hl
  · rw [if_neg hl] at s; exact s.elim
/-- a new tuple -/
theorem tup_step {xs : List AV} {ys : List V} {p : Addr} (R : Rep K cls b h H) (rs : RelAs K b H xs ys) (s : Sim K cls b H (.ok (.tup xs) h) (kW K H0 Q) E) (hp : H p = none) : Q (.ref p) (upd H p (.tup ys)) := by
  obtain ⟨x, R'⟩ := R.fz hp (.tup ys)
  exact s _ _ x R' _ (RelA.tup (.inr rfl) upd_same (rs.mono R.nf x)) fun _ _ e => by cases e
/-- what is read is there -/
theorem rdL_sq {v : AV} {u : V} {xs : List AV} (R : Rep K cls b h H) (r : RelT K b H v u) (e : rdL h v = some xs) : ∃ a ys, u = .ref a ∧ SqL K H a ys ∧ RelAs K b H xs ys := by
  cases v with
  | lst zs =>
    have e : zs = xs := Option.some.inj e
    subst e
    cases r with
    | lst hF h r => exact ⟨_, _, rfl, SqL.of h, r⟩
  | kl zs =>
    have e : zs = xs := Option.some.inj e
    subst e
    cases r with
    | klF hF h r => exact ⟨_, _, rfl, .inl (.inr ⟨_, h⟩), r⟩
    | klK h r => exact ⟨_, _, rfl, .inr h, r⟩
  | own zs =>
    have e : zs = xs := Option.some.inj e
    subst e
    obtain ⟨a, ys, e, _, _, h, r⟩ := r
    exact ⟨a, ys, e, SqL.of h, r⟩
  | peek zs =>
    have e : zs = xs := Option.some.inj e
    subst e
    obtain ⟨a, ys, e, _, _, h, r⟩ := r
    exact ⟨a, ys, e, SqL.of h, r⟩
  | ref n =>
    cases r with
    | ref hn =>
      cases q : h[n]? with
      | none => simp only [rdL, q] at e; cases e
      | some o =>
        simp only [rdL, q] at e
        cases o with
        | lst zs =>
          have e : zs = xs := Option.some.inj e
          subst e
          obtain ⟨ys, e1, r⟩ := R.ob n _ _ q hn
          exact ⟨_, ys, rfl, SqL.of e1, r⟩
        | _ => cases e
  | _ => cases e
theorem rdM_lst {v : AV} {u : V} {xs : List AV} (R : Rep K cls b h H) (r : RelT K b H v u) (e : rdM h v = some xs) : ∃ a ys, u = .ref a ∧ H a = some (.lst ys) ∧ RelAs K b H xs ys := by
  cases v with
  | lst zs =>
    have e : zs = xs := Option.some.inj e
    subst e
    cases r with
    | lst hF h r => exact ⟨_, _, rfl, h, r⟩
  | kl zs => cases e
  | own zs =>
    have e : zs = xs := Option.some.inj e
    subst e
    obtain ⟨a, ys, e, _, _, h, r⟩ := r
    exact ⟨a, ys, e, h, r⟩
  | peek zs =>
    have e : zs = xs := Option.some.inj e
    subst e
    obtain ⟨a, ys, e, _, _, h, r⟩ := r
    exact ⟨a, ys, e, h, r⟩
  | ref n =>
    cases r with
    | ref hn =>
      cases q : h[n]? with
      | none => simp only [rdM, rdL, q] at e; cases e
      | some o =>
        simp only [rdM, rdL, q] at e
        cases o with
        | lst zs =>
          have e : zs = xs := Option.some.inj e
          subst e
          obtain ⟨ys, e1, r⟩ := R.ob n _ _ q hn
          exact ⟨_, ys, rfl, e1, r⟩
        | _ => cases e
  | _ => cases e
theorem tup_sq {u : V} {xs : List AV} (r : RelT K b H (.tup xs) u) : ∃ a ys, u = .ref a ∧ SqT K H a ys ∧ RelAs K b H xs ys := by
  cases r with
  | tup hF h r => exact ⟨_, _, rfl, SqT.of h, r⟩
theorem rdQ_sq {v : AV} {u : V} {xs : List AV} (R : Rep K cls b h H) (r : RelT K b H v u) (e : rdQ h v = some xs) : ∃ a ys, u = .ref a ∧ (SqL K H a ys ∨ SqT K H a ys) ∧ RelAs K b H xs ys := by
  cases v with
  | tup zs =>
    have e : zs = xs := Option.some.inj e
    subst e
    obtain ⟨a, ys, e, q, r⟩ := tup_sq r
    exact ⟨a, ys, e, .inr q, r⟩
  | _ =>
    obtain ⟨a, ys, e, q, r⟩ := rdL_sq R r e
    exact ⟨a, ys, e, .inl q, r⟩
/-- data -/
theorem toD_dp (R : Rep K cls b h H) : ∀ (n : Nat) (v : AV) (u : V) (d : PyData), toD n h v = some d → RelT K b H v u → Dp K H u d ∧ d.canLay0 = true ∧ d.depth ≤ n := by
  intro n
  induction n with
  | zero => intro v u d e; cases e
  | succ n ih =>
    have all : ∀ (xs : List AV) (ys : List V) (ds : List PyData), xs.mapM (toD n h) = some ds → RelAs K b H xs ys → DpAll K H ys ds ∧ PyData.canLayAll0 ds = true ∧ PyData.depthAll ds ≤ n := by
      intro xs
      induction xs with
      | nil =>
        intro ys ds e r
        cases r
        simp at e
        subst e
        exact ⟨.nil, rfl, Nat.zero_le _⟩
      | cons x xs ihx =>
        intro ys ds e r
        cases r with
        | cons r rs =>
          rw [List.mapM_cons] at e
          cases q : toD n h x with
          | none => rw [q] at e; cases e
          | some d =>
            rw [q] at e
            cases q2 : xs.mapM (toD n h) with
            | none => simp [q2] at e
            | some ds' =>
              simp [q2] at e
              subst e
              obtain ⟨h1, h2, h3⟩ := ih x _ d q (RelT.of r)
              obtain ⟨g1, g2, g3⟩ := ihx _ _ q2 rs
              refine ⟨.cons h1 g1, ?_, ?_⟩
              · simp [PyData.canLayAll0, h2, g2]
              · simp only [PyData.depthAll]; omega
    have lst : ∀ (v : AV) (u : V) (d : PyData), RelT K b H v u → (match rdL h v with
        | some xs => (xs.mapM (toD n h)).map PyData.list
        | none => none) = some d → Dp K H u d ∧ d.canLay0 = true ∧ d.depth ≤ n + 1 := by
      intro v u d r e
      cases q : rdL h v with
      | none => rw [q] at e; cases e
      | some xs =>
        obtain ⟨a, ys, rfl, hq, rs⟩ := rdL_sq R r q
        rw [q] at e
        simp only at e
        cases q2 : xs.mapM (toD n h) with
        | none => rw [q2] at e; cases e
        | some ds =>
          rw [q2] at e
          cases e
          obtain ⟨g1, g2, g3⟩ := all xs ys ds q2 rs
          exact ⟨.lst hq g1, g2, Nat.succ_le_succ g3⟩
    intro v u d e r
    cases v with
    | non => cases e; cases r; exact ⟨.non, rfl, Nat.zero_le _⟩
    | bl c => cases e; cases r; exact ⟨.bl c, rfl, Nat.zero_le _⟩
    | int i => cases e; cases r; exact ⟨.int i, rfl, Nat.zero_le _⟩
    | str x =>
      cases r
      simp only [toD] at e
      split at e
      · rename_i hx
        cases e
        exact ⟨.str x, hx, Nat.zero_le _⟩
      · cases e
    | tup xs =>
      obtain ⟨a, ys, rfl, q, rs⟩ := tup_sq r
      simp only [toD] at e
      cases q2 : xs.mapM (toD n h) with
      | none => rw [q2] at e; cases e
      | some ds =>
        rw [q2] at e
        cases e
        obtain ⟨g1, g2, g3⟩ := all xs ys ds q2 rs
        exact ⟨.tup q g1, g2, Nat.succ_le_succ g3⟩
    | lst xs => exact lst _ u d r e
    | kl xs => exact lst _ u d r e
    | own xs => exact lst _ u d r e
    | peek xs => exact lst _ u d r e
    | ref m => exact lst _ u d r e
    | top w => exact lst _ u d r e
theorem toD_shaped {n : Nat} {d : PyData} (hn : n ≤ 64) (h : d.canLay0 = true ∧ d.depth ≤ n) : SeqAt.shaped d = true := by
  unfold SeqAt.shaped
  rw [h.1, decide_eq_true (Nat.le_trans h.2 hn)]
  rfl
end

/-! ### operators -/
section
variable {X : Cx} {K : PySem.W.Frag} {cls : Nat → Addr} {b : Ab} {h : AH} {H H0 : Hp} {E : XK} {Q : VK}
theorem OpR.or {f : Value → Value → Sem Value} {r r' : R2} (h : OpR X f r) (h' : OpR X f r') : OpR X f (fun x y H Q => r x y H Q ∨ r' x y H Q) := by
  intro pins s σ H x y v u Q I rx ry q
  exact q.elim (h pins s σ H x y v u Q I rx ry) (h' pins s σ H x y v u Q I rx ry)
theorem CallR.or {f : Value} {r r' : List V → Hp → VK → Prop} (h : CallR X f r) (h' : CallR X f r') : CallR X f (fun xs H Q => r xs H Q ∨ r' xs H Q) := by
  intro pins s σ H xs us Q I rx q
  exact q.elim (h pins s σ H xs us Q I rx) (h' pins s σ H xs us Q I rx)
def pyOp : B2 → Operator
  | .add => .Add | .sub => .Sub | .mul => .Mult | .fdiv => .FloorDiv | .mod => .Mod | .pow => .Pow | .shl => .LShift | .shr => .RShift | .band => .BitAnd | .bor => .BitOr
def pyCmp : C2 → CmpOp
  | .eq => .Eq | .ne => .NotEq | .lt => .Lt | .le => .LtE | .gt => .Gt | .ge => .GtE | .isN => .Is | .notN => .IsNot | .isB => .Is | .notB => .IsNot
/-- what the layer asks of an operator -/
def rB (K : PySem.W.Frag) : B2 → R2
  | .add => fun x y H Q => rI0 (fun i j => .int (i + j)) x y H Q ∨ (rCatT K x y H Q ∨ rCat x y H Q)
  | .sub => rI0 fun i j => .int (i - j)
  | .mul => fun x y H Q => rI CMul (fun i j => .int (i * j)) x y H Q ∨ rRep x y H Q
  | .fdiv => rI CDivB fun i j => .int (i / j)
  | .mod => rI (fun _ j => 0 < j) fun i j => .int (i % j)
  | .pow => rI CPowB fun i j => .int (i ^ j.toNat)
  | .shl => rI CShl fun i j => .int (i * 2 ^ j.toNat)
  | .shr => rI (fun _ j => 0 ≤ j) fun i j => .int (i / 2 ^ j.toNat)
  | .band => rI0 fun i j => .int (Builtin.bitAnd i j)
  | .bor => rI0 fun i j => .int (Builtin.bitOr i j)
theorem op_B (o : B2) : OpR X (binaryOp (pyOp o)) (rB X.K o) := by
  cases o with
  | add => exact OpR.or op_add (OpR.or op_catT op_cat)
  | sub => exact op_sub
  | mul => exact OpR.or op_mul op_rep
  | fdiv => exact op_fdivB
  | mod => exact op_mod
  | pow => exact op_powB
  | shl => exact op_shlB
  | shr => exact op_shr
  | band => exact op_and
  | bor => exact op_or
theorem ble_le {a b : Nat} (h : Nat.ble a b = true) : a ≤ b := Nat.le_of_ble_eq_true h
theorem fdOk_ok {i j : Int} (h : fdOk j = true) : CDivB i j := by
  unfold fdOk at h
  rw [Bool.and_eq_true, decide_eq_true_eq] at h
  have := ble_le h.2
  exact ⟨h.1, by omega⟩
theorem pwOk_ok {i j : Int} (h : pwOk i j = true) : CPowB i j := by
  unfold pwOk at h
  rw [Bool.and_eq_true, decide_eq_true_eq] at h
  have h2 := ble_le h.2
  refine ⟨h.1, ?_⟩
  have e : ((i.natAbs.log2 + 1 : Nat) : Int) * j = (((i.natAbs.log2 + 1) * j.toNat : Nat) : Int) := by rw [Int.natCast_mul, Int.toNat_of_nonneg h.1]
  rw [e]
  omega
theorem shOk_ok {i j : Int} (h : shOk i j = true) : CShl i j := by
  unfold shOk at h
  rw [Bool.and_eq_true, Bool.and_eq_true, decide_eq_true_eq] at h
  have h2 := ble_le h.1.2
  have h3 := ble_le h.2
  have h1 := h.1.1
  exact ⟨h1, by omega, by omega⟩
theorem small_ok {i : Int} (h : small i = true) : -(2 ^ 64) < i ∧ i < 2 ^ 64 := by
  have := ble_le h
  omega
theorem rgOk_ok {i : Int} (h : rgOk i = true) : -(2 ^ 62) ≤ i ∧ i < 2 ^ 62 := by
  have := ble_le h
  omega
theorem rpOk_ok {i : Int} (h : rpOk i = true) : -1000 < i ∧ i < 1000 := by
  have := ble_le h
  omega
theorem bin_step {o : B2} {k : Kd} {x y : AV} {u w : V} (R : Rep K cls b h H) (dm : ∀ p, H p = none → H0 p = none) (rx : RelT K b H x u) (ry : RelT K b H y w) (s : Sim K cls b H (bin2 o k x y h) (kW K H0 Q) E) : rB K o u w H Q := by
  have cat : ∀ x y, RelT K b H x u → RelT K b H y w → Sim K cls b H (match rdM h x, rdM h y with
      | some xs, some ys => mkL k (xs ++ ys) h
      | _, _ => .stuck) (kW K H0 Q) E → rCat u w H Q := by
    intro x y rx ry s
    cases q1 : rdM h x with
    | none => rw [q1] at s; exact s.elim
    | some xs =>
      cases q2 : rdM h y with
      | none => rw [q1, q2] at s; exact s.elim
      | some ys =>
        rw [q1, q2] at s
        obtain ⟨a, us, rfl, h1, r1⟩ := rdM_lst R rx q1
        obtain ⟨c, ws, rfl, h2, r2⟩ := rdM_lst R ry q2
        have hl := mkL_len s
        rw [List.length_append, r1.length, r2.length] at hl
        exact ⟨a, c, us, ws, rfl, rfl, h1, h2, lim_le hl, fun p hp => mkL_step R (r1.append r2) s hp (dm p hp)⟩
  have rep : ∀ (x : AV) (j : Int), RelT K b H x u → w = .int j → Sim K cls b H (match rdM h x with
      | some xs => if rpOk j then mkL k (List.replicate j.toNat xs).flatten h else .stuck
      | _ => .stuck) (kW K H0 Q) E → rRep u w H Q := by
    intro x j rx ew s
    subst ew
    cases q1 : rdM h x with
    | none => rw [q1] at s; exact s.elim
    | some xs =>
      rw [q1] at s
      simp only at s
      by_cases hj : rpOk j = true
      · rw [if_pos hj] at s
        have hj := rpOk_ok hj
        obtain ⟨a, us, rfl, h1, r1⟩ := rdM_lst R rx q1
        have hl := mkL_len s
        rw [len_rep, r1.length, Nat.mul_comm] at hl
        exact ⟨a, j, us, rfl, rfl, h1, by omega, by omega, lim_le hl, fun p hp => mkL_step R (r1.rep _) s hp (dm p hp)⟩
      · rw [if_neg hj] at s; exact s.elim
  cases o with
  | add =>
    cases x with
    | int i =>
      cases y with
      | int j =>
        cases rx; cases ry
        exact .inl ⟨i, j, rfl, rfl, fin_int R s⟩
      | _ => exact s.elim
    | tup xs =>
      cases y with
      | tup ys =>
        obtain ⟨a, us, rfl, h1, r1⟩ := tup_sq rx
        obtain ⟨c, ws, rfl, h2, r2⟩ := tup_sq ry
        simp only [bin2] at s
        split at s
        · rename_i hc
          obtain ⟨hl, n1, n2⟩ := hc
          rw [r1.length, r2.length] at hl
          refine .inr (.inl ⟨a, c, us, ws, rfl, rfl, h1, h2, fun z => n1 ?_, lim_le hl, fun z => absurd ?_ n2, fun _ p hp => tup_step R (r1.append r2) s hp⟩)
          · subst z; cases r1; rfl
          · subst z; cases r2; rfl
        · exact s.elim
      | _ => exact s.elim
    | _ => exact .inr (.inr (cat _ _ rx ry s))
  | sub =>
    cases x with
    | int i =>
      cases y with
      | int j =>
        cases rx; cases ry
        exact ⟨i, j, rfl, rfl, fin_int R s⟩
      | _ => exact s.elim
    | _ => exact s.elim
  | mul =>
    cases y with
    | int j =>
      cases x with
      | int i =>
        cases rx; cases ry
        simp only [bin2] at s
        split at s
        · rename_i hc
          refine .inl ⟨i, j, rfl, rfl, ?_, fin_int R s⟩
          rw [Bool.or_eq_true] at hc
          exact hc.elim (fun z => .inl (small_ok z)) fun z => .inr (small_ok z)
        · exact s.elim
      | _ => exact .inr (rep _ j rx (by cases ry; rfl) s)
    | _ => cases x <;> exact s.elim
  | fdiv =>
    cases x with
    | int i =>
      cases y with
      | int j =>
        cases rx; cases ry
        simp only [bin2] at s
        split at s
        · rename_i hc
          exact ⟨i, j, rfl, rfl, fdOk_ok hc, fin_int R s⟩
        · exact s.elim
      | _ => exact s.elim
    | _ => exact s.elim
  | shl =>
    cases x with
    | int i =>
      cases y with
      | int j =>
        cases rx; cases ry
        simp only [bin2] at s
        split at s
        · rename_i hc
          exact ⟨i, j, rfl, rfl, shOk_ok hc, fin_int R s⟩
        · exact s.elim
      | _ => exact s.elim
    | _ => exact s.elim
  | shr =>
    cases x with
    | int i =>
      cases y with
      | int j =>
        cases rx; cases ry
        simp only [bin2] at s
        split at s
        · rename_i hc
          exact ⟨i, j, rfl, rfl, hc, fin_int R s⟩
        · exact s.elim
      | _ => exact s.elim
    | _ => exact s.elim
  | band =>
    cases x with
    | int i =>
      cases y with
      | int j =>
        cases rx; cases ry
        exact ⟨i, j, rfl, rfl, fin_int R s⟩
      | _ => exact s.elim
    | _ => exact s.elim
  | bor =>
    cases x with
    | int i =>
      cases y with
      | int j =>
        cases rx; cases ry
        exact ⟨i, j, rfl, rfl, fin_int R s⟩
      | _ => exact s.elim
    | _ => exact s.elim
  | mod =>
    cases x with
    | int i =>
      cases y with
      | int j =>
        cases rx; cases ry
        simp only [bin2] at s
        split at s
        · rename_i hc
          exact ⟨i, j, rfl, rfl, hc, fin_int R s⟩
        · exact s.elim
      | _ => exact s.elim
    | _ => exact s.elim
  | pow =>
    cases x with
    | int i =>
      cases y with
      | int j =>
        cases rx; cases ry
        simp only [bin2] at s
        split at s
        · rename_i hc
          exact ⟨i, j, rfl, rfl, pwOk_ok hc, fin_int R s⟩
        · exact s.elim
      | _ => exact s.elim
    | _ => exact s.elim
/-- comparisons -/
def rC (K : PySem.W.Frag) : C2 → R2
  | .eq => rEqD K
  | .ne => rNeD K
  | .lt => rI0 fun i j => .bl (decide (i < j))
  | .le => rI0 fun i j => .bl (decide (i ≤ j))
  | .gt => rI0 fun i j => .bl (decide (j < i))
  | .ge => rI0 fun i j => .bl (decide (j ≤ i))
  | .isN => fun x y H Q => y = .non ∧ Q (.bl (decide (x = .non))) H
  | .notN => fun x y H Q => y = .non ∧ Q (.bl (!decide (x = .non))) H
  | .isB => fun x y H Q => ∃ c, y = .bl c ∧ Q (.bl (decide (x = .bl c))) H
  | .notB => fun x y H Q => ∃ c, y = .bl c ∧ Q (.bl (!decide (x = .bl c))) H
theorem op_C (hu : X.A.units + 64 < cLine) (o : C2) : OpR X (compareOp (pyCmp o)) (rC X.K o) := by
  cases o with
  | eq => exact op_eqD hu
  | ne => exact op_neD hu
  | lt => exact op_lt
  | le => exact op_le
  | gt => exact op_gt
  | ge => exact op_ge
  | isN => exact op_isN
  | notN => exact op_notN
  | isB => exact op_isB
  | notB => exact op_notB
theorem isNon_dec {v : AV} {u : V} {c : Bool} (r : RelT K b H v u) (e : isNon v = some c) : decide (u = .non) = c := by
  cases v with
  | top w => cases e
  | non => cases r; cases e; rfl
  | own xs => obtain ⟨a, ys, rfl, _⟩ := r; cases e; rfl
  | peek xs => obtain ⟨a, ys, rfl, _⟩ := r; cases e; rfl
  | _ => cases r <;> (cases e; rfl)
theorem isBl_dec {v : AV} {u : V} {c k : Bool} (r : RelT K b H v u) (e : isBl c v = some k) : decide (u = .bl c) = k := by
  cases v with
  | top w => cases e
  | bl d => cases r; cases e; cases c <;> cases d <;> rfl
  | own xs => obtain ⟨a, ys, rfl, _⟩ := r; cases e; rfl
  | peek xs => obtain ⟨a, ys, rfl, _⟩ := r; cases e; rfl
  | _ => cases r <;> (cases e; rfl)
/-- an operator in place -/
def rIp : B2 → R2
  | .add => rI0 fun i j => .int (i + j)
  | .sub => rI0 fun i j => .int (i - j)
  | .mul => rI CMul fun i j => .int (i * j)
  | .shl => rI CShl fun i j => .int (i * 2 ^ j.toNat)
  | .band => rI0 fun i j => .int (Builtin.bitAnd i j)
  | .bor => rI0 fun i j => .int (Builtin.bitOr i j)
  | _ => fun _ _ _ _ => False
theorem op_ip (o : B2) : OpR X (inplaceOp (pyOp o)) (rIp o) := by
  cases o with
  | add => exact iop_add
  | sub => exact iop_sub
  | mul => exact iop_mul
  | shl => exact iop_shlB
  | band => exact iop_and
  | bor => exact iop_or
  | _ => exact fun _ _ _ _ _ _ _ _ _ _ _ _ h => h.elim
theorem iop_step {o : B2} {i j z : Int} (e : iopI o i j = some z) (q : Q (.int z) H) : rIp o (.int i) (.int j) H Q := by
  cases o with
  | add => cases e; exact ⟨i, j, rfl, rfl, q⟩
  | sub => cases e; exact ⟨i, j, rfl, rfl, q⟩
  | band => cases e; exact ⟨i, j, rfl, rfl, q⟩
  | bor => cases e; exact ⟨i, j, rfl, rfl, q⟩
  | mul =>
    simp only [iopI] at e
    split at e
    · rename_i hc
      cases e
      rw [Bool.or_eq_true] at hc
      exact ⟨i, j, rfl, rfl, hc.elim (fun z => .inl (small_ok z)) fun z => .inr (small_ok z), q⟩
    · cases e
  | shl =>
    simp only [iopI] at e
    split at e
    · rename_i hc
      cases e
      exact ⟨i, j, rfl, rfl, shOk_ok hc, q⟩
    · cases e
  | _ => cases e
theorem cmp_step {o : C2} {x y : AV} {u w : V} {c : Bool} (R : Rep K cls b h H) (rx : RelT K b H x u) (ry : RelT K b H y w) (e : cmp2v o x y h = some c) (q : Q (.bl c) H) : rC K o u w H Q := by
  cases o with
  | eq =>
    simp only [cmp2v] at e
    split at e
    · rename_i d e' h1 h2
      cases e
      obtain ⟨a1, a2⟩ := toD_dp R 8 _ _ _ h1 rx
      obtain ⟨c1, c2⟩ := toD_dp R 8 _ _ _ h2 ry
      exact ⟨d, e', a1, c1, toD_shaped (by decide) a2, toD_shaped (by decide) c2, q⟩
    · cases e
  | ne =>
    simp only [cmp2v] at e
    split at e
    · rename_i d e' h1 h2
      cases e
      obtain ⟨a1, a2⟩ := toD_dp R 8 _ _ _ h1 rx
      obtain ⟨c1, c2⟩ := toD_dp R 8 _ _ _ h2 ry
      exact ⟨d, e', a1, c1, toD_shaped (by decide) a2, toD_shaped (by decide) c2, q⟩
    · cases e
  | lt =>
    cases x with
    | int i =>
      cases y with
      | int j => cases rx; cases ry; cases e; exact ⟨i, j, rfl, rfl, q⟩
      | _ => cases e
    | _ => cases e
  | le =>
    cases x with
    | int i =>
      cases y with
      | int j => cases rx; cases ry; cases e; exact ⟨i, j, rfl, rfl, q⟩
      | _ => cases e
    | _ => cases e
  | gt =>
    cases x with
    | int i =>
      cases y with
      | int j => cases rx; cases ry; cases e; exact ⟨i, j, rfl, rfl, q⟩
      | _ => cases e
    | _ => cases e
  | ge =>
    cases x with
    | int i =>
      cases y with
      | int j => cases rx; cases ry; cases e; exact ⟨i, j, rfl, rfl, q⟩
      | _ => cases e
    | _ => cases e
  | isN =>
    cases y with
    | non => cases ry; exact ⟨rfl, by rw [isNon_dec rx e]; exact q⟩
    | _ => cases e
  | notN =>
    cases y with
    | non =>
      cases ry
      simp only [cmp2v] at e
      cases e1 : isNon x with
      | none => rw [e1] at e; cases e
      | some c' =>
        rw [e1] at e
        cases e
        exact ⟨rfl, by rw [isNon_dec rx e1]; exact q⟩
    | _ => cases e
  | isB =>
    cases y with
    | bl c' => cases ry; exact ⟨_, rfl, by rw [isBl_dec rx e]; exact q⟩
    | _ => cases e
  | notB =>
    cases y with
    | bl c' =>
      cases ry
      simp only [cmp2v] at e
      cases e1 : isBl c' x with
      | none => rw [e1] at e; cases e
      | some k =>
        rw [e1] at e
        cases e
        exact ⟨_, rfl, by rw [isBl_dec rx e1]; exact q⟩
    | _ => cases e
end
end R

end

section
set_option Elab.async false
set_option linter.all false
/-! The runner, part D: builtins, items, slices, tests. -/
namespace R
open PySem PySem.Spec L2
section
variable {X : Cx} {K : PySem.W.Frag} {cls : Nat → Addr} {b : Ab} {h : AH} {H H0 : Hp} {E : XK} {Q : VK}
/-- builtins -/
inductive BK where | fn (id : String) | ty (id : String)
def bkOf : Bl → BK
  | .len => .fn "len" | .abs => .fn "abs" | .min => .fn "min" | .max => .fn "max" | .sum => .fn "sum"
  | .list => .ty "list" | .tuple => .ty "tuple" | .int => .ty "int" | .all => .fn "all" | .any => .fn "any"
def bkName : Bl → Str
  | .len => "len" | .abs => "abs" | .min => "min" | .max => "max" | .sum => "sum"
  | .list => "list" | .tuple => "tuple" | .int => "int" | .all => "all" | .any => "any"
def bkVal : BK → Value
  | .fn id => .builtin id
  | .ty id => .type id
def rBl (K : PySem.W.Frag) : Bl → List V → Hp → VK → Prop
  | .len => fun xs H Q => (∃ p ys, xs = [.ref p] ∧ (SqL K H p ys ∨ SqT K H p ys) ∧ Q (.int ys.length) H) ∨ ((∃ a kvs, xs = [V.ref a] ∧ H a = some (.dK kvs) ∧ Q (.int kvs.length) H) ∨ (∃ a kvs, xs = [V.ref a] ∧ H a = some (.dT kvs) ∧ Q (.int kvs.length) H))
  | .abs => fun xs H Q => ∃ i, xs = [.int i] ∧ Q (.int (if i < 0 then -i else i)) H
  | .min => fun xs H Q => ∃ i j, xs = [.int i, .int j] ∧ Q (.int (if j < i then j else i)) H
  | .max => fun xs H Q => ∃ i j, xs = [.int i, .int j] ∧ Q (.int (if j > i then j else i)) H
  | .sum => rSum K
  | .list => fun xs H Q => ∃ p ys, xs = [.ref p] ∧ (SqL K H p ys ∨ SqT K H p ys) ∧ ∀ l, H l = none → Q (.ref l) (upd H l (.lst ys))
  | .tuple => fun xs H Q => ∃ p ys, xs = [.ref p] ∧ ((SqL K H p ys ∧ ∀ l, H l = none → Q (.ref l) (upd H l (.tup ys))) ∨ (SqT K H p ys ∧ Q (.ref p) H))
  | .int => fun xs H Q => (∃ i, xs = [.int i] ∧ Q (.int i) H) ∨ ∃ k, xs = [.bl k] ∧ Q (.int (if k then 1 else 0)) H
  | .all => rAll K
  | .any => rAny K
theorem call_Bl (hc : X.calm = true) (f : Bl) : CallR X (bkVal (bkOf f)) (rBl X.K f) := by
  cases f with
  | len => exact CallR.or call_len_seq (CallR.or call_lenD call_lenDT)
  | abs => exact call_abs
  | min => exact call_min2 hc
  | max => exact call_max2 hc
  | sum => exact cr_sum hc
  | list => exact call_list_of
  | tuple => exact call_tuple_of
  | int => exact call_int1
  | all => exact cr_all hc
  | any => exact cr_any hc
theorem intsOf_map {K : PySem.W.Frag} {b : Ab} {H : Hp} : ∀ {xs : List AV} {ys : List V} {ns : List Int}, intsOf xs = some ns → RelAs K b H xs ys → ys = ns.map V.int
  | [], _, _, e, r => by cases r; cases e; rfl
  | .int i :: xs, _, ns, e, r => by
    cases r with
    | cons r rs =>
      cases r
      simp only [intsOf] at e
      cases q : intsOf xs with
      | none => rw [q] at e; cases e
      | some ms =>
        rw [q] at e
        cases e
        rw [intsOf_map q rs]
        rfl
  | .non :: _, _, _, e, _ => by cases e
  | .bl _ :: _, _, _, e, _ => by cases e
  | .str _ :: _, _, _, e, _ => by cases e
  | .tup _ :: _, _, _, e, _ => by cases e
  | .lst _ :: _, _, _, e, _ => by cases e
  | .kl _ :: _, _, _, e, _ => by cases e
  | .own _ :: _, _, _, e, _ => by cases e
  | .peek _ :: _, _, _, e, _ => by cases e
  | .ref _ :: _, _, _, e, _ => by cases e
  | .top _ :: _, _, _, e, _ => by cases e
theorem boolsOf_map {K : PySem.W.Frag} {b : Ab} {H : Hp} : ∀ {xs : List AV} {ys : List V} {ns : List Bool}, boolsOf xs = some ns → RelAs K b H xs ys → ys = ns.map V.bl
  | [], _, _, e, r => by cases r; cases e; rfl
  | .bl i :: xs, _, ns, e, r => by
    cases r with
    | cons r rs =>
      cases r
      simp only [boolsOf] at e
      cases q : boolsOf xs with
      | none => rw [q] at e; cases e
      | some ms =>
        rw [q] at e
        cases e
        rw [boolsOf_map q rs]
        rfl
  | .non :: _, _, _, e, _ => by cases e
  | .int _ :: _, _, _, e, _ => by cases e
  | .str _ :: _, _, _, e, _ => by cases e
  | .tup _ :: _, _, _, e, _ => by cases e
  | .lst _ :: _, _, _, e, _ => by cases e
  | .kl _ :: _, _, _, e, _ => by cases e
  | .own _ :: _, _, _, e, _ => by cases e
  | .peek _ :: _, _, _, e, _ => by cases e
  | .ref _ :: _, _, _, e, _ => by cases e
  | .top _ :: _, _, _, e, _ => by cases e
theorem blt_step {f : Bl} {k : Kd} {vs : List AV} {us : List V} (R : Rep K cls b h H) (dm : ∀ p, H p = none → H0 p = none) (rs : RelTs K b H vs us) (s : Sim K cls b H (bltv f k vs h) (kW K H0 Q) E) : rBl K f us H Q := by
  cases rs with
  | nil => cases f <;> exact s.elim
  | cons r1 rs =>
    rename_i v u vs us
    cases rs with
    | nil =>
      cases f with
      | len =>
        simp only [bltv] at s
        split at s
        · rename_i xs e
          obtain ⟨a, ys, rfl, hq, rr⟩ := rdQ_sq R r1 e
          exact .inl ⟨a, ys, rfl, hq, by rw [← rr.length]; exact fin_int R s⟩
        · rename_i e
          cases v with
          | ref n =>
            cases r1 with
            | ref hn =>
              simp only at s
              cases q : h[n]? with
              | none => rw [q] at s; exact s.elim
              | some ob =>
                rw [q] at s
                have ro := R.ob n _ _ q hn
                cases ob with
                | dk kvs => obtain ⟨kws, eH, rr⟩ := ro; exact .inr (.inl ⟨_, _, rfl, eH, by rw [← Paired.length rr]; exact fin_int R s⟩)
                | dt kvs => obtain ⟨kws, eH, rr⟩ := ro; exact .inr (.inr ⟨_, _, rfl, eH, by rw [← Paired.length rr]; exact fin_int R s⟩)
                | _ => exact s.elim
          | _ => exact s.elim
      | abs =>
        cases v with
        | int i => cases r1; exact ⟨i, rfl, fin_int R s⟩
        | _ => exact s.elim
      | min => cases v <;> exact s.elim
      | max => cases v <;> exact s.elim
      | sum =>
        simp only [bltv] at s
        split at s
        · rename_i ns e
          cases e1 : rdL h v with
          | none => rw [e1] at e; cases e
          | some xs =>
            rw [e1] at e
            obtain ⟨a, ys, rfl, hq, rr⟩ := rdL_sq R r1 e1
            exact ⟨a, ns, rfl, by rw [← intsOf_map e rr]; exact hq, fin_int R s⟩
        · exact s.elim
      | list =>
        simp only [bltv] at s
        split at s
        · rename_i xs e
          obtain ⟨a, ys, rfl, hq, rr⟩ := rdQ_sq R r1 e
          exact ⟨a, ys, rfl, hq, fun l hl => mkL_step R rr s hl (dm l hl)⟩
        · exact s.elim
      | tuple =>
        cases v with
        | tup xs =>
          obtain ⟨a, ys, rfl, hq, rr⟩ := tup_sq r1
          exact ⟨a, ys, rfl, .inr ⟨hq, fin_keep R s r1 fun _ z => by cases z⟩⟩
        | _ =>
          simp only [bltv] at s
          split at s
          · rename_i xs e
            obtain ⟨a, ys, rfl, hq, rr⟩ := rdL_sq R r1 e
            exact ⟨a, ys, rfl, .inl ⟨hq, fun l hl => tup_step R rr s hl⟩⟩
          · exact s.elim
      | int =>
        cases v with
        | int i => cases r1; exact .inl ⟨i, rfl, fin_int R s⟩
        | bl c => cases r1; exact .inr ⟨c, rfl, fin_int R s⟩
        | _ => exact s.elim
      | all =>
        simp only [bltv] at s
        split at s
        · rename_i ns e
          cases e1 : rdL h v with
          | none => rw [e1] at e; cases e
          | some xs =>
            rw [e1] at e
            obtain ⟨a, ys, rfl, hq, rr⟩ := rdL_sq R r1 e1
            exact ⟨a, ns, rfl, by rw [← boolsOf_map e rr]; exact hq, fin_bl R s⟩
        · exact s.elim
      | any =>
        simp only [bltv] at s
        split at s
        · rename_i ns e
          cases e1 : rdL h v with
          | none => rw [e1] at e; cases e
          | some xs =>
            rw [e1] at e
            obtain ⟨a, ys, rfl, hq, rr⟩ := rdL_sq R r1 e1
            exact ⟨a, ns, rfl, by rw [← boolsOf_map e rr]; exact hq, fin_bl R s⟩
        · exact s.elim
    | cons r2 rs =>
      rename_i v2 u2 vs us
      cases rs with
      | nil =>
        cases f with
        | min =>
          cases v with
          | int i =>
            cases v2 with
            | int j => cases r1; cases r2; exact ⟨i, j, rfl, fin_int R s⟩
            | _ => exact s.elim
          | _ => exact s.elim
        | max =>
          cases v with
          | int i =>
            cases v2 with
            | int j => cases r1; cases r2; exact ⟨i, j, rfl, fin_int R s⟩
            | _ => exact s.elim
          | _ => exact s.elim
        | abs => cases v <;> exact s.elim
        | int => cases v <;> exact s.elim
        | _ => exact s.elim
      | cons r3 rs =>
        cases f with
        | min =>
          cases v with
          | int i => cases v2 <;> exact s.elim
          | _ => exact s.elim
        | max =>
          cases v with
          | int i => cases v2 <;> exact s.elim
          | _ => exact s.elim
        | abs => cases v <;> exact s.elim
        | int => cases v <;> exact s.elim
        | _ => exact s.elim
/-- an item -/
theorem ix_step {x y : AV} {u w : V} (R : Rep K cls b h H) (rx : RelT K b H x u) (ry : RelT K b H y w) (s : Sim K cls b H (match rdQ h x, y with
    | some xs, .int k => ofOpt (atI xs k) h
    | _, _ => .stuck) (kW K H0 Q) E) : rIx K u w H Q := by
  cases q : rdQ h x with
  | none => rw [q] at s; exact s.elim
  | some xs =>
    rw [q] at s
    cases y with
    | int k =>
      cases ry
      simp only [ofOpt] at s
      cases e : atI xs k with
      | none => rw [e] at s; exact s.elim
      | some v =>
        rw [e] at s
        obtain ⟨a, ys, rfl, hq, rr⟩ := rdQ_sq R rx q
        have e' : ∃ z, atI ys k = some z ∧ RelA K b H v z := by
          unfold atI at e ⊢
          rw [← rr.length]
          cases j : ixN xs.length k with
          | none => rw [j] at e; cases e
          | some n =>
            rw [j] at e
            exact rr.get e
        obtain ⟨z, hz, rz⟩ := e'
        have fin : Q z H := s.here R z (RelT.of rz) fun zs _ ez => by subst ez; cases rz
        rcases hq with hq | hq
        · exact .inl ⟨a, ys, k, z, rfl, rfl, hq, hz, fin⟩
        · exact .inr (.inl ⟨a, ys, k, z, rfl, rfl, hq, hz, fin⟩)
    | _ => exact s.elim
theorem sl_step {k : Kd} {x : AV} {u : V} {lo hi : Option Int} (R : Rep K cls b h H) (dm : ∀ p, H p = none → H0 p = none) (rx : RelT K b H x u) (s : Sim K cls b H (match rdL h x with
    | some xs => mkL k ((xs.drop (HT.sIx xs.length 0 lo)).take (HT.sIx xs.length xs.length hi - HT.sIx xs.length 0 lo)) h
    | none => .stuck) (kW K H0 Q) E) : rSlL K u lo hi H Q := by
  cases q : rdL h x with
  | none => rw [q] at s; exact s.elim
  | some xs =>
    rw [q] at s
    obtain ⟨a, ys, rfl, hq, rr⟩ := rdL_sq R rx q
    refine ⟨a, ys, rfl, hq, fun p hp => ?_⟩
    unfold cutV
    rw [← rr.length]
    exact mkL_step R ((rr.drop _).take _) s hp (dm p hp)
theorem RelAs.reverse : ∀ {xs : List AV} {ys : List V}, RelAs K b H xs ys → RelAs K b H xs.reverse ys.reverse
  | [], _, r => by cases r; exact .nil
  | x :: xs, _, r => by
    cases r with
    | cons r rs =>
      rw [List.reverse_cons, List.reverse_cons]
      exact (RelAs.reverse rs).append (.cons r .nil)
theorem rev_step {k : Kd} {x y : AV} {u w : V} (R : Rep K cls b h H) (dm : ∀ p, H p = none → H0 p = none) (rx : RelT K b H x u) (ry : RelT K b H y w) (s : Sim K cls b H (revV k x y h) (kW K H0 Q) E) : rRev K u w H Q := by
  unfold revV at s
  cases y with
  | int i =>
    cases ry
    simp only at s
    by_cases hi : i = -1
    · subst hi
      rw [if_pos rfl] at s
      cases q : rdL h x with
      | none => rw [q] at s; exact s.elim
      | some xs =>
        rw [q] at s
        obtain ⟨a, ys, rfl, hq, rr⟩ := rdL_sq R rx q
        exact ⟨rfl, a, ys, rfl, hq, fun p hp => mkL_step R rr.reverse s hp (dm p hp)⟩
    · rw [if_neg hi] at s; exact s.elim
  | _ => exact s.elim
/-- truth -/
theorem truth_step {v : AV} {u : V} {c : Bool} (R : Rep K cls b h H) (r : RelT K b H v u) (e : truth h v = some c) : TruV K u H c := by
  have sq : ∀ v, RelT K b H v u → (match rdQ h v with
      | some xs => some (!xs.isEmpty)
      | none => none) = some c → TruV K u H c := by
    intro v r e
    cases q : rdQ h v with
    | none => rw [q] at e; cases e
    | some xs =>
      rw [q] at e
      cases e
      obtain ⟨a, ys, rfl, hq, rr⟩ := rdQ_sq R r q
      have ee : xs.isEmpty = ys.isEmpty := by cases rr <;> rfl
      rcases hq with hq | hq
      · exact .inl ⟨ys, hq, by rw [ee]⟩
      · exact .inr (.inl ⟨ys, hq, by rw [ee]⟩)
  cases v with
  | non => cases r; cases e; exact rfl
  | bl k => cases r; cases e; exact rfl
  | int i => cases r; cases e; exact rfl
  | _ => exact sq _ r e
/-! dicts -/
theorem keyOf_rel {k : AV} {u : V} {c : Key} (r : RelT K b H k u) (e : keyOf k = some c) : u = kV c := by
  cases k with
  | int i => cases r; cases e; rfl
  | str x => cases r; cases e; rfl
  | _ => cases e
theorem keysOf_rel : ∀ {xs : List AV} {ys : List V} {ks : List Key}, RelAs K b H xs ys → keysOf xs = some ks → ys = ks.map kV
  | [], _, _, r, e => by cases r; cases e; rfl
  | x :: xs, _, ks, .cons r rs, e => by
    simp only [keysOf] at e
    split at e
    · rename_i k ks' e1 e2
      cases e
      rw [keyOf_rel (RelT.of r) e1, keysOf_rel rs e2]
      rfl
    · cases e
theorem valA_rel {κ : Type} [DecidableEq κ] {k : κ} : ∀ {kvs : List (κ × AV)} {kws : List (κ × V)}, Paired (fun (p : κ × AV) (q : κ × V) => p.1 = q.1 ∧ RelA K b H p.2 q.2) kvs kws →
    (valA kvs k = none ∧ valV kws k = none) ∨ ∃ v u, valA kvs k = some v ∧ valV kws k = some u ∧ RelA K b H v u
  | _, _, .nil => .inl ⟨rfl, rfl⟩
  | p :: kvs, q :: kws, .cons r rs => by
    by_cases e : p.1 = k
    · exact .inr ⟨p.2, q.2, by simp [valA, List.find?_cons, e], valV_pos (r.1.symm.trans e), r.2⟩
    · have e' : ¬ q.1 = k := fun z => e (r.1.trans z)
      rw [valV_neg e', show valA (p :: kvs) k = valA kvs k from by simp [valA, List.find?_cons, e]]
      exact valA_rel rs
theorem any_rel {κ : Type} [DecidableEq κ] {k : κ} {R : AV → V → Prop} : ∀ {kvs : List (κ × AV)} {kws : List (κ × V)}, Paired (fun (p : κ × AV) (q : κ × V) => p.1 = q.1 ∧ R p.2 q.2) kvs kws → (kvs.any fun kv => decide (kv.1 = k)) = (kws.any fun kv => decide (kv.1 = k))
  | _, _, .nil => rfl
  | p :: kvs, q :: kws, .cons r rs => by rw [List.any_cons, List.any_cons, any_rel rs, r.1]
theorem map_rel {κ : Type} [DecidableEq κ] {k : κ} {v : AV} {u : V} {R : AV → V → Prop} (hv : R v u) : ∀ {kvs : List (κ × AV)} {kws : List (κ × V)}, Paired (fun (p : κ × AV) (q : κ × V) => p.1 = q.1 ∧ R p.2 q.2) kvs kws →
    Paired (fun (p : κ × AV) (q : κ × V) => p.1 = q.1 ∧ R p.2 q.2) (kvs.map fun kv => if kv.1 = k then (kv.1, v) else kv) (kws.map fun kv => if kv.1 = k then (kv.1, u) else kv)
  | _, _, .nil => .nil
  | p :: kvs, q :: kws, .cons r rs => by
    refine .cons ?_ (map_rel hv rs)
    by_cases e : p.1 = k
    · simp only [if_pos e, if_pos (r.1.symm.trans e)]; exact ⟨r.1, hv⟩
    · simp only [if_neg e, if_neg (fun z => e (r.1.trans z) : ¬ q.1 = k)]; exact r
theorem snoc_rel {α β : Type} {R : α → β → Prop} {x : α} {y : β} (h : R x y) : ∀ {xs : List α} {ys : List β}, Paired R xs ys → Paired R (xs ++ [x]) (ys ++ [y])
  | _, _, .nil => .cons h .nil
  | _, _, .cons r rs => .cons r (snoc_rel h rs)
theorem putD_rel {κ : Type} [DecidableEq κ] {k : κ} {v : AV} {u : V} {R : AV → V → Prop} (hv : R v u) {kvs : List (κ × AV)} {kws : List (κ × V)} (r : Paired (fun (p : κ × AV) (q : κ × V) => p.1 = q.1 ∧ R p.2 q.2) kvs kws) :
    Paired (fun (p : κ × AV) (q : κ × V) => p.1 = q.1 ∧ R p.2 q.2) (putD kvs k v) (putK kws k u) := by
  unfold putD putK
  rw [any_rel r]
  split
  · exact map_rel hv r
  · exact snoc_rel (R := fun (p : κ × AV) (q : κ × V) => p.1 = q.1 ∧ R p.2 q.2) ⟨rfl, hv⟩ r
theorem dLook_step {d k : AV} {x y : V} {o : Option AV} (R : Rep K cls b h H) (rd : RelT K b H d x) (rk : RelT K b H k y) (e : dLook h d k = some o) :
    ∃ a o', x = .ref a ∧ DGet H a y o' ∧ ((o = none ∧ o' = none) ∨ ∃ v u, o = some v ∧ o' = some u ∧ RelA K b H v u) := by
  cases d with
  | ref n =>
    cases rd with
    | ref hn =>
      rename_i a
      unfold dLook at e
      simp only at e
      cases q : h[n]? with
      | none => rw [q] at e; cases e
      | some ob =>
        rw [q] at e
        cases ob with
        | dk kvs =>
          obtain ⟨kws, eH, rr⟩ := R.ob n _ a q hn
          simp only at e
          cases ek : keyOf k with
          | none => rw [ek] at e; cases e
          | some c =>
            rw [ek] at e
            cases e
            rw [keyOf_rel rk ek]
            refine ⟨a, _, rfl, DGet.k eH, ?_⟩
            exact valA_rel rr
        | dt kvs =>
          obtain ⟨kws, eH, rr⟩ := R.ob n _ a q hn
          simp only at e
          cases k with
          | tup xs =>
            simp only at e
            cases ek : keysOf xs with
            | none => rw [ek] at e; cases e
            | some c =>
              rw [ek] at e
              cases e
              cases rk with
              | tup hF hb rs =>
                rw [keysOf_rel rs ek] at hb
                exact ⟨a, _, rfl, DGet.t eH hb, valA_rel rr⟩
          | _ => cases e
        | _ => cases e
  | _ => cases e
theorem dPut_step {d k v : AV} {x y u : V} {h' : AH} (R : Rep K cls b h H) (rd : RelT K b H d x) (rk : RelT K b H k y) (rv : RelT K b H v u) (e : dPut h d k v = some h') :
    ∃ a H', x = .ref a ∧ DPut H a y u H' ∧ Ext b H b H' ∧ Rep K cls b h' H' := by
  unfold dPut at e
  cases kp : keepable v with
  | false => rw [kp, if_pos rfl] at e; cases e
  | true =>
    rw [kp, if_neg (by decide)] at e
    have rv := rv.keep kp
    cases d with
    | ref n =>
      cases rd with
      | ref hn =>
        rename_i a
        simp only at e
        cases q : h[n]? with
        | none => rw [q] at e; cases e
        | some ob =>
          rw [q] at e
          cases ob with
          | dk kvs =>
            obtain ⟨kws, eH, rr⟩ := R.ob n _ a q hn
            simp only at e
            split at e
            · rename_i hl
              cases ek : keyOf k with
              | none => rw [ek] at e; cases e
              | some c =>
                rw [ek] at e
                cases e
                rw [keyOf_rel rk ek]
                obtain ⟨x', R'⟩ := R.wr (o' := .dk (putD kvs c v)) (ho := .dK (putK kws c u)) hn eH fun H' x' => ⟨_, rfl, putD_rel (rv.mono R.nf x') (Paired.monoR (fun _ _ z => z.mono R.nf x') rr)⟩
                exact ⟨a, _, rfl, DPut.k eH (by rw [← Paired.length rr]; exact lim_lt (Nat.le_of_lt hl)), x', R'⟩
            · cases e
          | dt kvs =>
            obtain ⟨kws, eH, rr⟩ := R.ob n _ a q hn
            simp only at e
            split at e
            · rename_i hl
              cases k with
              | tup xs =>
                simp only at e
                cases ek : keysOf xs with
                | none => rw [ek] at e; cases e
                | some c =>
                  rw [ek] at e
                  cases e
                  cases rk with
                  | tup hF hb rs =>
                    rw [keysOf_rel rs ek] at hb
                    obtain ⟨x', R'⟩ := R.wr (o' := .dt (putD kvs c v)) (ho := .dT (putK kws c u)) hn eH fun H' x' => ⟨_, rfl, putD_rel (rv.mono R.nf x') (Paired.monoR (fun _ _ z => z.mono R.nf x') rr)⟩
                    exact ⟨a, _, rfl, DPut.t eH hb (by rw [← Paired.length rr]; exact lim_lt (Nat.le_of_lt hl)), x', R'⟩
              | _ => cases e
            · cases e
          | _ => cases e
    | _ => cases e
/-- o.append(v) of an object of the heap -/
theorem appH_step {o v : AV} {x u : V} {h' : AH} (R : Rep K cls b h H) (ro : RelT K b H o x) (rv : RelT K b H v u) (e : appH h o v = some h') :
    ∃ a ys, x = .ref a ∧ H a = some (.lst ys) ∧ ys.length < sizeLine ∧ Ext b H b (upd H a (.lst (ys ++ [u]))) ∧ Rep K cls b h' (upd H a (.lst (ys ++ [u]))) := by
  unfold appH at e
  cases kp : keepable v with
  | false => rw [kp, if_pos rfl] at e; cases e
  | true =>
    rw [kp, if_neg (by decide)] at e
    have rv := rv.keep kp
    cases o with
    | ref n =>
      cases ro with
      | ref hn =>
        rename_i a
        simp only at e
        cases q : h[n]? with
        | none => rw [q] at e; cases e
        | some ob =>
          rw [q] at e
          cases ob with
          | lst xs =>
            obtain ⟨ys, eH, rr⟩ := R.ob n _ a q hn
            simp only at e
            split at e
            · rename_i hl
              cases e
              obtain ⟨x', R'⟩ := R.wr (o' := .lst (xs ++ [v])) (ho := .lst (ys ++ [u])) hn eH fun H' x' => ⟨_, rfl, (rr.mono R.nf x').append (.cons (rv.mono R.nf x') .nil)⟩
              exact ⟨a, ys, rfl, eH, by rw [← rr.length]; exact lim_lt (Nat.le_of_lt hl), x', R'⟩
            · cases e
          | _ => cases e
    | _ => cases e
/-- flat things -/
theorem flatOf_rel {v : AV} {u w : V} (r : RelT K b H v u) (e : flatOf v = some w) : u = w ∧ flatV w = true := by
  cases v with
  | non => cases r; cases e; exact ⟨rfl, rfl⟩
  | bl c => cases r; cases e; exact ⟨rfl, rfl⟩
  | int i => cases r; cases e; exact ⟨rfl, rfl⟩
  | str x => cases r; cases e; exact ⟨rfl, rfl⟩
  | _ => cases e
theorem flatsOf_rel : ∀ {xs : List AV} {ys ws : List V}, RelAs K b H xs ys → flatsOf xs = some ws → ys = ws ∧ ws.all flatV = true
  | [], _, _, r, e => by cases r; cases e; exact ⟨rfl, rfl⟩
  | x :: xs, _, ws, .cons r rs, e => by
    simp only [flatsOf] at e
    split at e
    · rename_i k ks' e1 e2
      cases e
      obtain ⟨a1, a2⟩ := flatOf_rel (RelT.of r) e1
      obtain ⟨b1, b2⟩ := flatsOf_rel rs e2
      subst a1; subst b1
      exact ⟨rfl, by rw [List.all_cons, a2, b2]; rfl⟩
    · cases e
/-- x in a list or tuple of any data -/
def rInD (K : PySem.W.Frag) (neg : Bool) : R2 := fun x y H Q => ∃ d ds, Dp K H x d ∧ (Dp K H y (.list ds) ∨ Dp K H y (.tuple ds)) ∧ d.canLay0 = true ∧ PyData.canLayAll0 ds = true ∧ d.depth ≤ 8 ∧ Q (.bl (if neg then !(ds.any fun e => PyData.eqv e d) else ds.any fun e => PyData.eqv e d)) H
def rInB (K : PySem.W.Frag) (neg : Bool) : R2 := fun x y H Q => rIn K neg x y H Q ∨ rInD K neg x y H Q
theorem op_inD (hu : X.A.units + 64 < cLine) (neg : Bool) : OpR X (compareOp (if neg then .NotIn else .In)) (rInD X.K neg) := by
  intro pins s σ H x y v u Q I rx ry h
  obtain ⟨d, ds, hd, he, cd, cs, dp, q⟩ := h
  obtain ⟨as, r1⟩ := Dp.reads I d x v hd rx
  have hm : min (PyData.depthAll ds) d.depth ≤ 8 := Nat.le_trans (Nat.min_le_right _ _) dp
  rcases he with he | he
  · obtain ⟨bs, r2⟩ := Dp.reads I (.list ds) y u he ry
    cases neg with
    | false => exact SeqAt.in_list_reads r2 r1 cs cd (by omega) ⟨.bl _, H, I, rfl, q⟩
    | true => exact SeqAt.notIn_list_reads r2 r1 cs cd (by omega) ⟨.bl _, H, I, rfl, q⟩
  · obtain ⟨bs, r2⟩ := Dp.reads I (.tuple ds) y u he ry
    cases neg with
    | false => exact SeqAt.in_tuple_reads r2 r1 cs cd (by omega) ⟨.bl _, H, I, rfl, q⟩
    | true => exact SeqAt.notIn_tuple_reads r2 r1 cs cd (by omega) ⟨.bl _, H, I, rfl, q⟩
theorem inQ_step {neg : Bool} {x y : AV} {u w : V} {c : Bool} (R : Rep K cls b h H) (rx : RelT K b H x u) (ry : RelT K b H y w) (e : inQ h x y = some c) (q : Q (.bl (if neg then !c else c)) H) : rInB K neg u w H Q := by
  unfold inQ at e
  split at e
  · rename_i f fs e1 e2
    cases e
    cases e3 : rdQ h y with
    | none => rw [e3] at e2; cases e2
    | some ys =>
      rw [e3] at e2
      obtain ⟨a, zs, rfl, hq, rr⟩ := rdQ_sq R ry e3
      obtain ⟨rfl, g1⟩ := flatOf_rel rx e1
      obtain ⟨rfl, g2⟩ := flatsOf_rel rr e2
      exact .inl ⟨a, zs, rfl, hq, g1, g2, q⟩
  · split at e
    · rename_i d ds e1 e2
      cases e
      obtain ⟨a1, a2, a3⟩ := toD_dp R 8 _ _ _ e1 rx
      obtain ⟨c1, c2, c3⟩ := toD_dp R 8 _ _ _ e2 ry
      exact .inr ⟨d, ds, a1, .inl c1, a2, c2, a3, q⟩
    · rename_i d ds e1 e2
      cases e
      obtain ⟨a1, a2, a3⟩ := toD_dp R 8 _ _ _ e1 rx
      obtain ⟨c1, c2, c3⟩ := toD_dp R 8 _ _ _ e2 ry
      exact .inr ⟨d, ds, a1, .inr c1, a2, c2, a3, q⟩
    · cases e
/-- classes -/
theorem tyA_step {v : AV} {u : V} {t : String} (R : Rep K cls b h H) (r : RelT K b H v u) (e : tyA h v = some t) : TyOf K H u (.type t) := by
  cases v with
  | non => cases r; cases e; exact .non
  | bl c => cases r; cases e; exact .bl c
  | int i => cases r; cases e; exact .int i
  | str x => cases r; cases e; exact .str x
  | tup xs =>
    cases r with
    | tup hF h r => cases e; exact .tup h
  | lst xs =>
    cases r with
    | lst hF h r => cases e; exact .lst h
  | own xs => obtain ⟨a, ys, rfl, _, _, h, _⟩ := r; cases e; exact .lst h
  | peek xs => obtain ⟨a, ys, rfl, _, _, h, _⟩ := r; cases e; exact .lst h
  | ref n =>
    cases r with
    | ref hn =>
      unfold tyA at e
      simp only at e
      cases q : h[n]? with
      | none => rw [q] at e; cases e
      | some ob =>
        rw [q] at e
        have ro := R.ob n _ _ q hn
        cases ob with
        | lst xs => cases e; obtain ⟨ys, eH, _⟩ := ro; exact .lst eH
        | dk xs => cases e; obtain ⟨ys, eH, _⟩ := ro; exact .dK eH
        | dt xs => cases e; obtain ⟨ys, eH, _⟩ := ro; exact .dT eH
        | ins c fs => cases e
  | _ => cases e
theorem tyA_mem {v : AV} {t : String} (e : tyA h v = some t) : t ∈ ["NoneType", "bool", "int", "str", "tuple", "list", "dict"] := by
  unfold tyA at e
  split at e <;> first | (cases e; done) | (cases e; decide) | skip
  · split at e <;> first | (cases e; done) | (cases e; decide)
theorem kit_bt (K : PySem.W.Frag) (c : Bt) : ∀ t ∈ ["NoneType", "bool", "int", "str", "tuple", "list", "dict"], PySem.W.kitOne K (.type t) (.type (btName c)) = some (isT t c) := by
  intro t ht
  simp only [List.mem_cons, List.not_mem_nil, or_false] at ht
  rcases ht with rfl | rfl | rfl | rfl | rfl | rfl | rfl <;> cases c <;> rfl
theorem call_isi (c : Bt) : CallR X (.builtin "isinstance") (fun xs H Q => ∃ x t, xs = [x, .ty (btName c)] ∧ t ∈ ["NoneType", "bool", "int", "str", "tuple", "list", "dict"] ∧ TyOf X.K H x (.type t) ∧ Q (.bl (isT t c)) H) := by
  intro pins s σ H xs us Q I r h
  obtain ⟨x, t, rfl, ht, ty, q⟩ := h
  obtain ⟨u, w, rfl, ru, rw_⟩ := vals2 r
  cases rw_
  exact isinst_ok I ru ty (kit_bt X.K c t ht) fun tk => ⟨.bl _, H, I.tok tk, rfl, q⟩
theorem kits_bt (K : PySem.W.Frag) {t : String} (ht : t ∈ ["NoneType", "bool", "int", "str", "tuple", "list", "dict"]) : ∀ ts : List Bt, PySem.W.kitAny K (.type t) (ts.map fun c => .type (btName c)) = some (ts.any fun c => isT t c)
  | [] => rfl
  | c :: ts => by
    rw [List.map_cons, PySem.W.kitAny, kit_bt K c t ht, List.any_cons]
    cases isT t c
    · exact kits_bt K ht ts
    · rfl
def tyVs (ts : List Bt) : List V := ts.map fun c => .ty (btName c)
theorem vals_ty : ∀ {ts : List Bt} {us : List Value}, Vals (tyVs ts) us → us = ts.map fun c => .type (btName c)
  | [], _, r => by cases r; rfl
  | c :: ts, _, r => by
    cases r with
    | cons r1 r2 => cases r1; rw [vals_ty r2]; rfl
theorem call_isiT (ts : List Bt) : CallR X (.builtin "isinstance") (fun xs H Q => ∃ x t a, xs = [x, .ref a] ∧ t ∈ ["NoneType", "bool", "int", "str", "tuple", "list", "dict"] ∧ TyOf X.K H x (.type t) ∧ H a = some (.tup (tyVs ts)) ∧ Q (.bl (ts.any fun c => isT t c)) H) := by
  intro pins s σ H xs us Q I r h
  obtain ⟨x, t, a, rfl, ht, ty, ha, q⟩ := h
  obtain ⟨u, w, rfl, ru, rw_⟩ := vals2 r
  cases rw_
  obtain ⟨_, its, rv, hT⟩ := (show ObjOk X.prog X.w H s.heap a (.tup (tyVs ts)) from I.hok a _ ha)
  have e := vals_ty rv
  subst e
  exact isinstT_ok I ru ty hT (kits_bt X.K ht ts) fun tk => ⟨.bl _, H, I.tok tk, rfl, q⟩
/-! str -/
theorem call_strD (hg : X.A.guards = some []) (hu : X.A.units + 64 < cLine) : CallR X (.type "str") (fun xs H Q => (∃ i, xs = [.int i] ∧ i.natAbs.log2 < 1920 ∧ Q (.str (toString i)) H) ∨ ∃ a d, xs = [.ref a] ∧ Dp X.K H (.ref a) d ∧ d.canLay0 = true ∧ d.depth ≤ 8 ∧ d.showable = true ∧ d.shown.length ≤ sizeLine ∧ Q (.str d.shown) H) := by
  refine CallR.or call_str_int ?_
  intro pins s σ H xs us Q I r h
  obtain ⟨a, d, rfl, dp, hcl, hd, hs, hz, q⟩ := h
  obtain ⟨u, rfl, ru⟩ := vals1 r
  obtain ⟨as, rd⟩ := Dp.reads I d _ u dp ru
  cases ru
  refine PySem.str_of_reads rd hs (fun z => ?_) hg (by omega) (fun _ _ e => e) (fun h' t tk hk => ?_) hz
  · rw [PyData.hasDict_of_canLay d hcl] at z; cases z
  · exact ⟨.str d.shown, H, I.kept (h' := h') (t' := tk) hk, ⟨t, rfl⟩, q⟩
theorem strV_step {v : AV} {u : V} {t : Str} (R : Rep K cls b h H) (r : RelT K b H v u) (e : strV h v = some t) (q : Q (.str t) H) :
    (∃ i, [u] = [V.int i] ∧ i.natAbs.log2 < 1920 ∧ Q (.str (toString i)) H) ∨ ∃ a d, [u] = [V.ref a] ∧ Dp K H (.ref a) d ∧ d.canLay0 = true ∧ d.depth ≤ 8 ∧ d.showable = true ∧ d.shown.length ≤ sizeLine ∧ Q (.str d.shown) H := by
  have lst : ∀ v, RelT K b H v u → (match rdL h v, toD 8 h v with
      | some _, some d => if d.showable = true ∧ d.shown.length ≤ lim then some d.shown else none
      | _, _ => none) = some t → ∃ a d, [u] = [V.ref a] ∧ Dp K H (.ref a) d ∧ d.canLay0 = true ∧ d.depth ≤ 8 ∧ d.showable = true ∧ d.shown.length ≤ sizeLine ∧ Q (.str d.shown) H := by
    intro v r e
    split at e
    · rename_i xs d e1 e2
      obtain ⟨a, ys, rfl, _, _⟩ := rdL_sq R r e1
      obtain ⟨g1, g2, g3⟩ := toD_dp R 8 v _ d e2 r
      split at e
      · rename_i hc
        cases e
        exact ⟨a, d, rfl, g1, g2, g3, hc.1, lim_le hc.2, q⟩
      · cases e
    · cases e
  cases v with
  | int i =>
    cases r
    simp only [strV] at e
    split at e
    · rename_i hc
      cases e
      exact .inl ⟨i, rfl, hc, q⟩
    · cases e
  | tup xs =>
    obtain ⟨a, ys, rfl, _, _⟩ := tup_sq r
    simp only [strV] at e
    split at e
    · rename_i d e2
      obtain ⟨g1, g2, g3⟩ := toD_dp R 8 _ _ d e2 r
      split at e
      · rename_i hc
        cases e
        exact .inr ⟨a, d, rfl, g1, g2, g3, hc.1, lim_le hc.2, q⟩
      · cases e
    · cases e
  | _ => exact .inr (lst _ r e)
/-! instances -/
theorem lookupP {α : Type} {R : AV → V → Prop} [BEq α] [LawfulBEq α] {f : α} : ∀ {fs : List (α × AV)} {gs : List (α × V)}, Paired (fun (p : α × AV) (q : α × V) => p.1 = q.1 ∧ R p.2 q.2) fs gs →
    (fs.lookup f = none ∧ gs.lookup f = none) ∨ ∃ v u, fs.lookup f = some v ∧ gs.lookup f = some u ∧ R v u
  | _, _, .nil => .inl ⟨rfl, rfl⟩
  | (a, v) :: fs, (b, u) :: gs, .cons r rs => by
    obtain ⟨e, rv⟩ := r
    have e : a = b := e
    subst e
    rw [List.lookup_cons, List.lookup_cons]
    cases hx : f == a with
    | true => exact .inr ⟨v, u, rfl, rfl, rv⟩
    | false => exact lookupP rs
theorem putFP {R : AV → V → Prop} {f : Str} {v : AV} {u : V} (hv : R v u) : ∀ {fs : List (Str × AV)} {gs : List (Str × V)}, Paired (fun (p : Str × AV) (q : Str × V) => p.1 = q.1 ∧ R p.2 q.2) fs gs →
    Paired (fun (p : Str × AV) (q : Str × V) => p.1 = q.1 ∧ R p.2 q.2) (putFA f v fs) (putF f u gs)
  | _, _, .nil => .cons ⟨rfl, hv⟩ .nil
  | (a, x) :: fs, (b, y) :: gs, .cons r rs => by
    obtain ⟨e, rv⟩ := r
    have e : a = b := e
    subst e
    unfold putFA putF
    by_cases h : a = f
    · rw [if_pos h, if_pos h]; exact .cons ⟨rfl, hv⟩ rs
    · rw [if_neg h, if_neg h]; exact .cons ⟨rfl, rv⟩ (putFP hv rs)
theorem ins_at {n c : Nat} {a : Addr} {fs : List (Str × AV)} (R : Rep K cls b h H) (e : h[n]? = some (.ins c fs)) (hn : b.ρ[n]? = some a) : ∃ dx gs, H a = some (.ins (cls c) dx gs) ∧ Paired (fun (p : Str × AV) (q : Str × V) => p.1 = q.1 ∧ RelA K b H p.2 q.2) fs gs := R.ob n _ a e hn
theorem fld_step {x v : AV} {u : V} {f : Str} {cs : List Nat} (R : Rep K cls b h H) (r : RelT K b H x u) (e : fldV h x f cs = some v) : ∃ a c dx gs w, (cs.contains c = true ∧ clsOf h x = some c) ∧ u = .ref a ∧ H a = some (.ins (cls c) dx gs) ∧ gs.lookup f = some w ∧ RelA K b H v w := by
  cases x with
  | ref n =>
    cases r with
    | ref hn =>
      rename_i a
      unfold fldV at e
      simp only at e
      cases q : h[n]? with
      | none => rw [q] at e; cases e
      | some ob =>
        rw [q] at e
        cases ob with
        | ins c fs =>
          simp only at e
          split at e
          · rename_i hc
            obtain ⟨dx, gs, eH, rr⟩ := ins_at R q hn
            rcases lookupP (f := f) rr with ⟨z, _⟩ | ⟨v', w, z1, z2, z3⟩
            · rw [z] at e; cases e
            · rw [z1] at e; cases e
              exact ⟨a, c, dx, gs, w, ⟨hc, by simp only [clsOf, q]⟩, rfl, eH, z2, z3⟩
          · cases e
        | _ => cases e
  | _ => cases e
theorem paired_len {α β : Type} {R : α → β → Prop} {xs : List α} {ys : List β} (h : Paired R xs ys) : xs.length = ys.length := Paired.length h
theorem setFld_step {x v : AV} {u w : V} {f : Str} {cs : List Nat} {h' : AH} (R : Rep K cls b h H) (r : RelT K b H x u) (rv : RelT K b H v w) (e : setFldV h x f cs v = some h') :
    ∃ a c dx gs, (cs.contains c = true ∧ clsOf h x = some c) ∧ u = .ref a ∧ H a = some (.ins (cls c) dx gs) ∧ gs.length < 1000 ∧ Ext b H b (upd H a (.ins (cls c) dx (putF f w gs))) ∧ Rep K cls b h' (upd H a (.ins (cls c) dx (putF f w gs))) := by
  unfold setFldV at e
  cases kp : keepable v with
  | false => rw [kp, if_pos rfl] at e; cases e
  | true =>
    rw [kp, if_neg (by decide)] at e
    have rv := rv.keep kp
    cases x with
    | ref n =>
      cases r with
      | ref hn =>
        rename_i a
        simp only at e
        cases q : h[n]? with
        | none => rw [q] at e; cases e
        | some ob =>
          rw [q] at e
          cases ob with
          | ins c fs =>
            simp only at e
            split at e
            · rename_i hc
              cases e
              obtain ⟨dx, gs, eH, rr⟩ := ins_at R q hn
              obtain ⟨x', R'⟩ := R.wr (o' := .ins c (putFA f v fs)) (ho := .ins (cls c) dx (putF f w gs)) hn eH fun H' x' => ⟨dx, _, rfl, putFP (rv.mono R.nf x') (Paired.monoR (fun _ _ z => z.mono R.nf x') rr)⟩
              exact ⟨a, c, dx, gs, ⟨hc.1, by simp only [clsOf, q]⟩, rfl, eH, by rw [← paired_len rr]; exact hc.2, x', R'⟩
            · cases e
          | _ => cases e
    | _ => cases e
theorem meth_step {x : AV} {u : V} {m : Str} {alts : List (Nat × Nat)} {f : Nat} (R : Rep K cls b h H) (r : RelT K b H x u) (e : methD h x m alts = some f) : ∃ a c dx gs, alts.lookup c = some f ∧ u = .ref a ∧ H a = some (.ins (cls c) dx gs) ∧ gs.lookup m = none ∧ keepable x = true := by
  cases x with
  | ref n =>
    cases r with
    | ref hn =>
      rename_i a
      unfold methD at e
      simp only at e
      cases q : h[n]? with
      | none => rw [q] at e; cases e
      | some ob =>
        rw [q] at e
        cases ob with
        | ins c fs =>
          simp only at e
          split at e
          · rename_i hc
            obtain ⟨dx, gs, eH, rr⟩ := ins_at R q hn
            rcases lookupP (f := m) rr with ⟨_, z⟩ | ⟨v', w, z1, z2, z3⟩
            · exact ⟨a, c, dx, gs, e, rfl, eH, z, rfl⟩
            · rw [z1] at hc; cases hc
          · cases e
        | _ => cases e
  | _ => cases e
/-- a new instance -/
theorem Rep.mk' {c : Nat} {x dx : Addr} (R : Rep K cls b h H) (hx : H x = none) (hd : H dx = none) (ne : dx ≠ x) :
    Ext b H ⟨b.ρ ++ [x], b.F⟩ (upd (upd H dx (.own x)) x (.ins (cls c) dx [])) ∧ Rep K cls ⟨b.ρ ++ [x], b.F⟩ (h ++ [.ins c []]) (upd (upd H dx (.own x)) x (.ins (cls c) dx [])) := by
  obtain ⟨x1, R1, _, _⟩ := R.ow hd (.own x)
  have hx1 : upd H dx (.own x) x = none := by rw [upd_ne (Ne.symm ne)]; exact hx
  obtain ⟨x2, R2⟩ := R1.hp (o := .ins c []) (ho := .ins (cls c) dx []) hx1 fun b' H' _ => ⟨dx, [], rfl, .nil⟩
  exact ⟨x1.trans x2, R2⟩
end
end R

end

section
set_option Elab.async false
set_option linter.all false
/-! The runner, part E: the check that a term of the small language is a piece of the text, and that it is sound. -/
namespace R
open PySem PySem.Spec L2
/-- a class of the text: its name, the attributes of its instances, its methods (own or of a class above) and __init__ by the numbers of their defs, the classes that it is one of -/
structure Ci where
  name : Str
  attrs : List Str
  meths : List (Str × Nat)
  init : Option Nat
  mro : List Nat
structure Stat where
  N : List Str
  fn : List (Option Str)
  gc : List (Str × AV)
  ci : List Ci
def vis (sc : Scope) (x : Str) : Bool := match sc.names.lookup x with
  | some .local => true
  | some .cell => true
  | some .free => true
  | _ => false
def loc (sc : Scope) (x : Str) : Bool := match sc.names.lookup x with
  | some .local => true
  | some .cell => true
  | _ => false
def gl (sc : Scope) (x : Str) : Bool := match sc.names.lookup x with
  | some .globalImplicit => true
  | _ => false
def nmOk (x : Str) : Bool := !(x == ("__debug__" : Str)) && !(x == ("__classdict__" : Str))
def cstOk : AV → Const → Bool
  | .non, .none => true
  | .bl b, .bool c => b == c
  | .int i, .int j => decide (i = j)
  | .str x, .str y => decide (x = y)
  | _, _ => false
def gcOk (Z : Stat) (x : Str) (v : AV) : Bool := match Z.gc.lookup x, v with
  | some (.int i), .int j => decide (i = j)
  | some (.str i), .str j => decide (i = j)
  | some (.bl i), .bl j => i == j
  | some .non, .non => true
  | _, _ => false
def plainT : Expr → Bool
  | .UnaryOp .Not _ _ => false
  | .BoolOp _ _ _ => false
  | .IfExp _ _ _ _ => false
  | _ => true
def plainO : Expr → Bool
  | .Call (.Name x _) [] [] _ => x != ("super" : Str)
  | _ => true
def ownOf (Z : Stat) (vs : List Nat) : List (Str × Nat) := vs.map fun i => (Z.N.getD i Str.empty, i)
def chkTys (sc : Scope) : List Bt → List Expr → Bool
  | [], [] => true
  | t :: ts, .Name c _ :: ys => decide (c = Str.ofString (btName t)) && gl sc c && chkTys sc ts ys
  | _, _ => false
mutual
def chkE (Z : Stat) (sc : Scope) : E → Expr → Bool
  | .var i, .Name x _ => decide (Z.N[i]? = some x) && vis sc x && nmOk x
  | .cst v, .Constant c _ _ => cstOk v c
  | .gcs x v, .Name y _ => decide (x = y) && gl sc y && nmOk y && gcOk Z x v
  | .bin o _ a b, .BinOp l op r _ => decide (op = pyOp o) && chkE Z sc a l && chkE Z sc b r
  | .neg a, .UnaryOp .USub x _ => chkE Z sc a x
  | .cmp o a b, .Compare l [op] [r] _ => decide (op = pyCmp o) && chkE Z sc a l && chkE Z sc b r
  | .cmp2 o o' a b c, .Compare l [op, op'] [r, r'] _ => decide (op = pyCmp o) && decide (op' = pyCmp o') && chkE Z sc a l && chkE Z sc b r && chkE Z sc c r'
  | .and a b, .BoolOp .And (x :: y :: rest) p => chkE Z sc a x && (match rest with
    | [] => chkE Z sc b y
    | z :: zs => chkE Z sc b (.BoolOp .And (y :: z :: zs) p))
  | .or a b, .BoolOp .Or (x :: y :: rest) p => chkE Z sc a x && (match rest with
    | [] => chkE Z sc b y
    | z :: zs => chkE Z sc b (.BoolOp .Or (y :: z :: zs) p))
  | .not a, .UnaryOp .Not x _ => chkE Z sc a x
  | .ite c a b, .IfExp t x y _ => chkT Z sc c t && chkE Z sc a x && chkE Z sc b y
  | .tup es, .Tuple xs _ _ => chkEs Z sc es xs
  | .lst _ es, .List xs _ => chkEs Z sc es xs
  | .idx a i, .Subscript x y _ => chkE Z sc a x && chkE Z sc i y
  | .slc _ a lo hi, .Subscript x (.Slice l u none _) _ => chkE Z sc a x && chkO Z sc lo l && chkO Z sc hi u
  | .call f es, .Call (.Name x _) xs [] _ => decide (Z.fn[f]? = some (some x)) && gl sc x && nmOk x && chkEs Z sc es xs
  | .blt f _ es, .Call (.Name x _) xs [] _ => decide (x = bkName f) && gl sc x && !xs.isEmpty && chkEs Z sc es xs
  | .comp _ t it c e vs, .ListComp elt [⟨tg, iter, ifs, as⟩] scope _ => decide (as = 0) && chkI Z sc it iter tg && chkG Z scope t tg && chkTo Z (relS scope sc) c ifs && chkE Z (relS scope sc) e elt &&
      blkC Z.N sc scope (ownOf Z vs) && (tgSlots t).all (fun i => vs.contains i)
  | .orL a b, .BoolOp .Or (x :: y :: rest) p => chkE Z sc a x && (match rest with
    | [] => chkE Z sc b y
    | z :: zs => chkE Z sc b (.BoolOp .Or (y :: z :: zs) p))
  | .slcT a lo hi, .Subscript x (.Slice l u none _) _ => chkE Z sc a x && chkO Z sc lo l && chkO Z sc hi u
  | .isiT a ts, .Call (.Name f _) [x, .Tuple ys _ _] [] _ => decide (f = ("isinstance" : Str)) && gl sc f && decide (ts.length ≤ 100) && chkTys sc ts ys && chkE Z sc a x
  | .rev _ a m, .Subscript x (.Slice none none (some y) _) _ => chkE Z sc a x && chkE Z sc m y
  | .isi a t, .Call (.Name f _) [x, .Name c _] [] _ => decide (f = ("isinstance" : Str)) && gl sc f && decide (c = Str.ofString (btName t)) && gl sc c && chkE Z sc a x
  | .app o a, .Call (.Attribute x m ap) [v] [] cp => decide (m = ("append" : Str)) && (ap.endLine == cp.line) && plainO x && chkE Z sc o x && chkE Z sc a v
  | .dnew _, .Dict [] [] _ => true
  | .din neg k d, .Compare x [op] [y] _ => decide (op = if neg then .NotIn else .In) && chkE Z sc k x && chkE Z sc d y
  | .dget d k, .Subscript x y _ => chkE Z sc d x && chkE Z sc k y
  | .inS neg a b, .Compare x [op] [y] _ => decide (op = if neg then .NotIn else .In) && chkE Z sc a x && chkE Z sc b y
  | .strD a, .Call (.Name f _) [x] [] _ => decide (f = Str.ofString (btName .str)) && gl sc f && chkE Z sc a x
  | .fld a f cs, .Attribute x g _ => decide (f = g) && plainO x && chkE Z sc a x && cs.all (fun c => match Z.ci[c]? with
    | some i => i.attrs.contains f
    | none => false)
  | .make c fi es, .Call (.Name x _) xs [] _ => (match Z.ci[c]? with
    | some i => decide (i.name = x) && decide (i.init = some fi)
    | none => false) && gl sc x && nmOk x && chkEs Z sc es xs
  | .meth o m alts es, .Call (.Attribute x g ap) xs [] cp => decide (m = g) && plainO x && (ap.endLine == cp.line) && decide (xs.length < 30) && chkE Z sc o x && chkEs Z sc es xs && alts.all (fun a => match Z.ci[a.1]? with
    | some i => i.meths.contains (m, a.2)
    | none => false)
  | .isc a k yes no, .Call (.Name f _) [x, .Name c _] [] _ => decide (f = ("isinstance" : Str)) && gl sc f && gl sc c && nmOk c && chkE Z sc a x && (match Z.ci[k]? with
    | some i => decide (i.name = c)
    | none => false) && yes.all (fun c => match Z.ci[c]? with
    | some i => i.mro.contains k
    | none => false) && no.all (fun c => match Z.ci[c]? with
    | some i => !i.mro.contains k
    | none => false)
  | _, _ => false
def chkT (Z : Stat) (sc : Scope) : T → Expr → Bool
  | .val e, x => plainT x && chkE Z sc e x
  | .and a b, .BoolOp .And (x :: y :: rest) p => chkT Z sc a x && (match rest with
    | [] => chkT Z sc b y
    | z :: zs => chkT Z sc b (.BoolOp .And (y :: z :: zs) p))
  | .or a b, .BoolOp .Or (x :: y :: rest) p => chkT Z sc a x && (match rest with
    | [] => chkT Z sc b y
    | z :: zs => chkT Z sc b (.BoolOp .Or (y :: z :: zs) p))
  | .not a, .UnaryOp .Not x _ => chkT Z sc a x
  | _, _ => false
def chkEs (Z : Stat) (sc : Scope) : Es → List Expr → Bool
  | .nil, [] => true
  | .cons e es, x :: xs => chkE Z sc e x && chkEs Z sc es xs
  | _, _ => false
def chkO (Z : Stat) (sc : Scope) : Eo → Option Expr → Bool
  | .no, none => true
  | .so e, some x => chkE Z sc e x
  | _, _ => false
def chkTo (Z : Stat) (sc : Scope) : To → List Expr → Bool
  | .no, [] => true
  | .so t, [x] => chkT Z sc t x
  | _, _ => false
def chkI (Z : Stat) (sc : Scope) : It → Expr → Expr → Bool
  | .each e, x, _ => chkE Z sc e x
  | .rng1 a, .Call (.Name x _) [y] [] _, _ => decide (x = ("range" : Str)) && gl sc x && chkE Z sc a y
  | .rng2 a b, .Call (.Name x _) [y, z] [] _, _ => decide (x = ("range" : Str)) && gl sc x && chkE Z sc a y && chkE Z sc b z
  | .rng3 a b c, .Call (.Name x _) [y, z, t] [] _, _ => decide (x = ("range" : Str)) && gl sc x && chkE Z sc a y && chkE Z sc b z && chkE Z sc c t
  | .enum a, .Call (.Name x _) [y] [] _, .Tuple _ _ _ => decide (x = ("enumerate" : Str)) && gl sc x && chkE Z sc a y
  | .zip a b, .Call (.Name x _) [y, z] [] _, .Tuple _ _ _ => decide (x = ("zip" : Str)) && gl sc x && chkE Z sc a y && chkE Z sc b z
  | _, _, _ => false
def chkG (Z : Stat) (sc : Scope) : Tg → Expr → Bool
  | .nm i, .Name x _ => decide (Z.N[i]? = some x) && loc sc x
  | .tp ts, .Tuple es _ _ => chkGs Z sc ts es
  | _, _ => false
def chkGs (Z : Stat) (sc : Scope) : Tgs → List Expr → Bool
  | .nil, [] => true
  | .cons t ts, x :: xs => chkG Z sc t x && chkGs Z sc ts xs
  | _, _ => false
end

/-- a def whose promise follows from its run -/
structure Prm (P : Program) (w : World) (K : PySem.W.Frag) (mg : Str → Option Value) (base : Heap) (CX : CXT) (k : Nat) (cls : Nat → Addr) (cl : Cl) (E : XK) (f : Nat) (fa : Addr) : Prop where
  ex : ∃ (fd : FuncData) (ps : List Str) (sp : Sp), FnOk P w K mg base CX k fa fd ps sp ∧ Binds K fd ps [] ∧
    (∀ b h avs vs H Q, Rep K cls b h H → RelAs K b H avs vs → Sim K cls b H (cl f avs h) (kW K H Q) E → sp vs H Q E) ∧ (∀ b h avs vs H Q, Rep K cls b h H → RelAs K b H avs vs → Sim K cls b H (cl f avs h) (kW K H Q) E0 → sp vs H Q E0)
theorem Prm.zero {P : Program} {w : World} {K : PySem.W.Frag} {mg : Str → Option Value} {base : Heap} {CX : CXT} {k : Nat} {cls : Nat → Addr} {cl : Cl} {E : XK} {f : Nat} {fa : Addr} (p : Prm P w K mg base CX k cls cl E f fa) : Prm P w K mg base CX k cls cl E0 f fa :=
  let ⟨fd, ps, sp, a1, a2, _, a4⟩ := p.ex
  ⟨fd, ps, sp, a1, a2, a4, a4⟩
/-- a def that may be called by its name -/
def Cal (P : Program) (w : World) (K : PySem.W.Frag) (mg : Str → Option Value) (base : Heap) (CX : CXT) (k : Nat) (cls : Nat → Addr) (cl : Cl) (E : XK) (f : Nat) (x : Str) : Prop :=
  ∃ fa, Prm P w K mg base CX k cls cl E f fa ∧ mg x = some (.ref fa) ∧ PySem.W.keepIn K (.ref fa) = true
/-- what is known of a class -/
structure ClsOk (K : PySem.W.Frag) (mg : Str → Option Value) (C : Addr) (i : Ci) : Prop where
  nm : mg i.name = some (.ref C)
  cl : Cls K C
  at' : ∀ f ∈ i.attrs, NoAttr K C f
  ha : PySem.W.findIn K (.ref C) "__class__" = some (some (.builtin "object.__class__"))
  hn : PySem.W.specialIn K (.builtin "object.__class__") "__get__" = some (some (.builtin "getset_descriptor.__get__"))
  htk : PySem.W.takesIn K (.builtin "object.__class__") = some true
  hm : PySem.W.mroIn K C (.type "object") = some true
  kd : ∀ t ∈ ["NoneType", "bool", "int", "str", "tuple", "list", "dict"], PySem.W.kitOne K (.type t) (.ref C) = some false
def vOf : AV → V
  | .bl b => .bl b
  | .int i => .int i
  | .str x => .str x
  | _ => .non
/-- what may be called -/
structure Calls (Z : Stat) (cls : Nat → Addr) (cl : Cl) (CX : CXT) (E : XK) (X : Cx) (k : Nat) : Prop where
  room : Room (k + 1) X.A
  cal : ∀ f x, Z.fn[f]? = some (some x) → Cal X.prog X.w X.K X.mg X.base CX k cls cl E f x
  mets : ∀ c i m f, Z.ci[c]? = some i → (m, f) ∈ i.meths → ∃ fa, Prm X.prog X.w X.K X.mg X.base CX k cls cl E f fa ∧ Meth X.K (cls c) m fa
  inits : ∀ c i f, Z.ci[c]? = some i → i.init = some f → ∃ fa, Prm X.prog X.w X.K X.mg X.base CX k cls cl E f fa ∧ Mk X.K (cls c) fa
structure Cok (Z : Stat) (cls : Nat → Addr) (cl : Cl) (CX : CXT) (E : XK) (X : Cx) (sc : Scope) : Prop where
  hN : X.N = Z.N
  nd : Z.N.Nodup
  hsc : X.env.scope = sc
  calm : X.calm = true
  un : X.A.units + 64 < cLine
  gd : X.A.guards = some []
  nob : ∀ f : Bl, X.mg (bkName f) = none
  nor : X.mg ("range" : Str) = none
  noe : X.mg ("enumerate" : Str) = none
  noz : X.mg ("zip" : Str) = none
  noi : X.mg ("isinstance" : Str) = none
  nobt : ∀ t : Bt, X.mg (Str.ofString (btName t)) = none
  gcs : ∀ x v, Z.gc.lookup x = some v → ∃ u, X.mg x = some u ∧ RelV (vOf v) u
  cs : ∃ k, Calls Z cls cl CX E X k
  clsok : ∀ c i, Z.ci[c]? = some i → ClsOk X.K X.mg (cls c) i
  kit : ∀ c i k j, Z.ci[c]? = some i → Z.ci[k]? = some j → PySem.W.kitOne X.K (.ref (cls c)) (.ref (cls k)) = some (i.mro.contains k)
  pass : Passes CX X E
  own : PassesOwn (model X.prog X.w) X.A X.env X.xe
  no0 : ∀ st H s e s', CX st H s E0 e s' → False
end R

end

section
set_option Elab.async false
set_option linter.all false
/-! The runner, part F: targets, walks. -/
namespace R
open PySem PySem.Spec L2
/-- slots are set: each is as it was on both sides, or newly related -/
structure UpdS (K : PySem.W.Frag) (b : Ab) (H : Hp) (T : List Nat) (σ : AS) (σc : St) (σ' : AS) (σc' : St) : Prop where
  l1 : σ'.length = σ.length
  l2 : σc'.length = σc.length
  out : ∀ (i : Nat), i ∉ T → σ'[i]? = σ[i]? ∧ σc'[i]? = σc[i]?
  at' : ∀ (i : Nat), (σ'[i]? = σ[i]? ∧ σc'[i]? = σc[i]?) ∨ ∃ v u, σ'[i]? = some (some v) ∧ σc'[i]? = some (some u) ∧ keepable v = true ∧ RelA K b H v u
theorem UpdS.refl {K : PySem.W.Frag} {b : Ab} {H : Hp} {σ : AS} {σc : St} : UpdS K b H [] σ σc σ σc := ⟨rfl, rfl, fun _ _ => ⟨rfl, rfl⟩, fun _ => .inl ⟨rfl, rfl⟩⟩
theorem UpdS.trans {K : PySem.W.Frag} {b : Ab} {H : Hp} {T T' : List Nat} {σ σ' σ'' : AS} {σc σc' σc'' : St} (x : UpdS K b H T σ σc σ' σc') (y : UpdS K b H T' σ' σc' σ'' σc'') : UpdS K b H (T ++ T') σ σc σ'' σc'' where
  l1 := y.l1.trans x.l1
  l2 := y.l2.trans x.l2
  out := fun i hi => by
    have h1 := x.out i fun z => hi (List.mem_append_left _ z)
    have h2 := y.out i fun z => hi (List.mem_append_right _ z)
    exact ⟨h2.1.trans h1.1, h2.2.trans h1.2⟩
  at' := fun i => (y.at' i).elim (fun h2 => (x.at' i).elim (fun h1 => .inl ⟨h2.1.trans h1.1, h2.2.trans h1.2⟩) fun ⟨v, u, a, c, d, e⟩ => .inr ⟨v, u, h2.1.trans a, h2.2.trans c, d, e⟩) .inr
theorem UpdS.set {K : PySem.W.Frag} {b : Ab} {H : Hp} {σ : AS} {σc : St} {i : Nat} {v : AV} {u : V} (hi : i < σ.length) (hl : σ.length = σc.length) (k : keepable v = true) (r : RelA K b H v u) : UpdS K b H [i] σ σc (σ.set i (some v)) (σc.set i (some u)) := by
  refine ⟨by simp, by simp, fun j hj => ?_, fun j => ?_⟩
  · have hj : i ≠ j := fun z => hj (by simp [z])
    exact ⟨List.getElem?_set_ne hj, List.getElem?_set_ne hj⟩
  · by_cases hj : i = j
    · subst hj
      exact .inr ⟨v, u, List.getElem?_set_self hi, List.getElem?_set_self (by omega), k, r⟩
    · exact .inl ⟨List.getElem?_set_ne hj, List.getElem?_set_ne hj⟩
theorem UpdS.sr {K : PySem.W.Frag} {b : Ab} {H : Hp} {T : List Nat} {σ σ' : AS} {σc σc' : St} (x : UpdS K b H T σ σc σ' σc') (s : Sr K b H σ σc) : Sr K b H σ' σc' :=
  ⟨x.l1.trans (s.len.trans x.l2.symm), fun i v e => (x.at' i).elim (fun h => let ⟨u, h1, h2⟩ := s.rel i v (h.1.symm.trans e); ⟨u, h.2.trans h1, h2⟩) fun ⟨w, u, h1, h2, _, h4⟩ => by
    rw [h1] at e; cases e
    exact ⟨u, h2, RelT.of h4⟩⟩
/-- a target takes a value -/
def gR (K : PySem.W.Frag) (t : Tg) : TG := fun u σc H Q => ∃ b v σ σ', RelA K b H v u ∧ σ.length = σc.length ∧ setT t v σ = some σ' ∧ ∀ σc', UpdS K b H (tgSlots t) σ σc σ' σc' → Q σc' H
def gRs (K : PySem.W.Frag) (ts : Tgs) : TGs := fun us σc H Q => ∃ b vs σ σ', RelAs K b H vs us ∧ σ.length = σc.length ∧ setT.setTs ts vs σ = some σ' ∧ ∀ σc', UpdS K b H (tgSlots.go ts) σ σc σ' σc' → Q σc' H
/-- the targets' names may be bound here -/
def Gok (X : Cx) (sg : Scope) : Prop := ∀ x, loc sg x = true → L2.Loc X.env.scope x ∧ (X.fn x = true ∨ X.env.scope.names.lookup x = some .local)
theorem PG.mono {X : Cx} {tg : Expr} {t t' : TG} (h : PG X tg t) (m : ∀ u σ H Q, t' u σ H Q → t u σ H Q) : PG X tg t' := fun pins s σ H x v Q I r q => h pins s σ H x v Q I r (m _ _ _ _ q)
theorem PGs.mono {X : Cx} {tg : List Expr} {t t' : TGs} (h : PGs X tg t) (m : ∀ u σ H Q, t' u σ H Q → t u σ H Q) : PGs X tg t' := fun pins s σ H x v Q I r q => h pins s σ H x v Q I r (m _ _ _ _ q)
section
variable {X : Cx} {Z : Stat} {sg : Scope}
theorem chkG_star {t : Tg} {x : Expr} (h : chkG Z sg t x = true) (env : Env) (xs : List Expr) : assignEach (x :: xs) env = (false, assign x env) :: assignEach xs env := by
  cases t with
  | nm i => cases x <;> first | rfl | cases h
  | tp ts => cases x <;> first | rfl | cases h
theorem chkGs_len : ∀ {ts : Tgs} {xs : List Expr}, chkGs Z sg ts xs = true → ∀ env : Env, (assignEach xs env).length = xs.length ∧ (assignEach xs env).findIdx? (·.1) = none
  | .nil, [], _, _ => ⟨rfl, rfl⟩
  | .nil, _ :: _, h, _ => by cases h
  | .cons _ _, [], h, _ => by cases h
  | .cons t ts, x :: xs, h, env => by
    simp only [chkGs, Bool.and_eq_true] at h
    obtain ⟨h1, h2⟩ := chkGs_len h.2 env
    rw [chkG_star h.1]
    exact ⟨by simp [h1], by simp [List.findIdx?_cons, h2]⟩
theorem setTs_len : ∀ {ts : Tgs} {vs : List AV} {σ σ' : AS} {xs : List Expr}, setT.setTs ts vs σ = some σ' → chkGs Z sg ts xs = true → vs.length = xs.length
  | .nil, [], _, _, [], _, _ => rfl
  | .nil, _ :: _, _, _, _, e, _ => by cases e
  | .nil, [], _, _, _ :: _, _, h => by cases h
  | .cons t ts, [], _, _, _, e, _ => by cases e
  | .cons t ts, v :: vs, σ, _, [], _, h => by cases h
  | .cons t ts, v :: vs, σ, σ', x :: xs, e, h => by
    simp only [chkGs, Bool.and_eq_true] at h
    simp only [setT.setTs] at e
    cases q : setT t v σ with
    | none => rw [q] at e; cases e
    | some σ1 =>
      rw [q] at e
      have := setTs_len (xs := xs) e h.2
      simp [this]
mutual
theorem soundG (hN : X.N = Z.N) (nd : Z.N.Nodup) (calm : X.calm = true) (g : Gok X sg) : ∀ (t : Tg) (x : Expr), chkG Z sg t x = true → PG X x (gR X.K t)
  | .nm i, .Name x pos, h => by
    simp only [chkG, Bool.and_eq_true, decide_eq_true_eq] at h
    obtain ⟨h1, h2⟩ := g x h.2
    refine PG.mono (pg_name (i := i) (by rw [hN]; exact nd) (by rw [hN]; exact h.1) h1 h2) fun u σc H Q q => ?_
    obtain ⟨b, v, σ, σ', r, hl, e, k⟩ := q
    simp only [setT] at e
    split at e
    · rename_i hc
      cases e
      rw [Bool.and_eq_true, decide_eq_true_eq] at hc
      exact k _ (UpdS.set hc.2 hl hc.1 r)
    · cases e
  | .tp ts, .Tuple es kk pos, h => by
    have h : chkGs Z sg ts es = true := h
    obtain ⟨l1, l2⟩ := chkGs_len h X.env
    refine PG.mono (pg_tup calm (soundGs hN nd calm g ts es h) l1 l2) fun u σc H Q q => ?_
    obtain ⟨b, v, σ, σ', r, hl, e, k⟩ := q
    cases v with
    | tup xs =>
      obtain ⟨a, ys, rfl, hq, rr⟩ := tup_sq (RelT.of r)
      exact ⟨a, ys, rfl, hq, by rw [← rr.length]; exact setTs_len e h, b, xs, σ, σ', rr, hl, e, k⟩
    | _ => cases e
  | .nm _, .Tuple _ _ _, h => by cases h
  | .tp _, .Name _ _, h => by cases h
  | .nm _, .BoolOp _ _ _, h | .tp _, .BoolOp _ _ _, h => by cases h
  | .nm _, .NamedExpr _ _ _, h | .tp _, .NamedExpr _ _ _, h => by cases h
  | .nm _, .BinOp _ _ _ _, h | .tp _, .BinOp _ _ _ _, h => by cases h
  | .nm _, .UnaryOp _ _ _, h | .tp _, .UnaryOp _ _ _, h => by cases h
  | .nm _, .Lambda _ _ _ _, h | .tp _, .Lambda _ _ _ _, h => by cases h
  | .nm _, .IfExp _ _ _ _, h | .tp _, .IfExp _ _ _ _, h => by cases h
  | .nm _, .Dict _ _ _, h | .tp _, .Dict _ _ _, h => by cases h
  | .nm _, .Set _ _ _, h | .tp _, .Set _ _ _, h => by cases h
  | .nm _, .ListComp _ _ _ _, h | .tp _, .ListComp _ _ _ _, h => by cases h
  | .nm _, .SetComp _ _ _ _, h | .tp _, .SetComp _ _ _ _, h => by cases h
  | .nm _, .DictComp _ _ _ _ _, h | .tp _, .DictComp _ _ _ _ _, h => by cases h
  | .nm _, .GeneratorExp _ _ _ _, h | .tp _, .GeneratorExp _ _ _ _, h => by cases h
  | .nm _, .Await _ _, h | .tp _, .Await _ _, h => by cases h
  | .nm _, .Yield _ _, h | .tp _, .Yield _ _, h => by cases h
  | .nm _, .YieldFrom _ _, h | .tp _, .YieldFrom _ _, h => by cases h
  | .nm _, .Compare _ _ _ _, h | .tp _, .Compare _ _ _ _, h => by cases h
  | .nm _, .Call _ _ _ _, h | .tp _, .Call _ _ _ _, h => by cases h
  | .nm _, .FormattedValue _ _ _ _, h | .tp _, .FormattedValue _ _ _ _, h => by cases h
  | .nm _, .JoinedStr _ _, h | .tp _, .JoinedStr _ _, h => by cases h
  | .nm _, .Constant _ _ _, h | .tp _, .Constant _ _ _, h => by cases h
  | .nm _, .Attribute _ _ _, h | .tp _, .Attribute _ _ _, h => by cases h
  | .nm _, .Subscript _ _ _, h | .tp _, .Subscript _ _ _, h => by cases h
  | .nm _, .Starred _ _, h | .tp _, .Starred _ _, h => by cases h
  | .nm _, .List _ _, h | .tp _, .List _ _, h => by cases h
  | .nm _, .Slice _ _ _ _, h | .tp _, .Slice _ _ _ _, h => by cases h
theorem soundGs (hN : X.N = Z.N) (nd : Z.N.Nodup) (calm : X.calm = true) (g : Gok X sg) : ∀ (ts : Tgs) (xs : List Expr), chkGs Z sg ts xs = true → PGs X xs (gRs X.K ts)
  | .nil, [], h => by
    refine PGs.mono pgs_nil fun us σc H Q q => ?_
    obtain ⟨b, vs, σ, σ', r, hl, e, k⟩ := q
    cases vs with
    | nil => cases r; cases e; exact ⟨rfl, k _ UpdS.refl⟩
    | cons v vs => cases e
  | .nil, _ :: _, h => by cases h
  | .cons _ _, [], h => by cases h
  | .cons t ts, x :: xs, h => by
    simp only [chkGs, Bool.and_eq_true] at h
    refine PGs.mono (pgs_cons (soundG hN nd calm g t x h.1) (soundGs hN nd calm g ts xs h.2) (by rw [chkG_star h.1]; rfl)) fun us σc H Q q => ?_
    obtain ⟨b, vs, σ, σ', r, hl, e, k⟩ := q
    cases vs with
    | nil => cases e
    | cons v vs =>
      cases r with
      | cons r rs =>
        simp only [setT.setTs] at e
        cases q : setT t v σ with
        | none => rw [q] at e; cases e
        | some σ1 =>
          rw [q] at e
          refine ⟨_, _, rfl, b, v, σ, σ1, r, hl, q, fun σc1 x1 => ⟨b, vs, σ1, σ', rs, x1.l1.trans (hl.trans x1.l2.symm), e, fun σc2 x2 => k _ (x1.trans x2)⟩⟩
end
end

/-! ### walks -/
/-- one turn of what is walked -/
def TurnOk (K : PySem.W.Frag) (cls : Nat → Addr) (r : Option (Option AV)) (J : L2.It) (i : Nat) (b : Ab) (h : AH) (H : Hp) : Prop :=
  match r with
  | none => True
  | some none => J.stop i H
  | some (some v) => J.go i H ∧ ∀ u H2, J.yld i H u H2 → ∃ b2, Ext b H b2 H2 ∧ Rep K cls b2 h H2 ∧ RelA K b2 H2 v u
structure WkJ (K : PySem.W.Frag) (cls : Nat → Addr) (w : Wk) (J : L2.It) (b : Ab) (H : Hp) : Prop where
  e : ∀ i b' h' H', Ext b H b' H' → Rep K cls b' h' H' → TurnOk K cls (w.item h' i) J i b' h' H'
  s : w.st = true → ∀ i b' h' H', WExt b H b' H' → Rep K cls b' h' H' → TurnOk K cls (w.item h' i) J i b' h' H'
def tRI (K : PySem.W.Frag) (cls : Nat → Addr) (E : XK) (f : AS → AH → Res Wk) : TI := fun σc H R => ∃ b h σ, Rep K cls b h H ∧ Sr K b H σ σc ∧ Sim K cls b H (f σ h) (fun b' _ H' w => ∀ J, WkJ K cls w J b' H' → R J H') E
section
variable {K : PySem.W.Frag} {cls : Nat → Addr} {b : Ab} {h : AH} {H : Hp}
theorem RelT.monoW {b' : Ab} {H' : Hp} {v : AV} {u : V} (k : keepable v = true) (x : WExt b H b' H') (r : RelT K b H v u) : RelT K b' H' v u := RelT.of ((r.keep k).monoW x)
theorem wkj {w : Wk} {J : L2.It} {v : AV} {u : V} (nf : ∀ a ∈ b.ρ, ¬ b.F a) (r : RelT K b H v u) (hs : w.st = true → keepable v = true) (t : ∀ i b' h' H', RelT K b' H' v u → Rep K cls b' h' H' → TurnOk K cls (w.item h' i) J i b' h' H') : WkJ K cls w J b H :=
  ⟨fun i b' h' H' x R => t i b' h' H' (r.mono nf x) R, fun hst i b' h' H' x R => t i b' h' H' (r.monoW (hs hst) x) R⟩
theorem wk_list {v : AV} {a : Addr} {xs : List AV} (R : Rep K cls b h H) (r : RelT K b H v (.ref a)) (e : rdL h v = some xs) : WkJ K cls ⟨xs.length, keepable v, fun h i => (rdL h v).map (·[i]?)⟩ (Itl K a) b H := by
  refine wkj R.nf r (fun z => z) fun i b' h' H' r' R' => ?_
  cases q : rdL h' v with
  | none => simp only [q, Option.map_none]; exact trivial
  | some ys =>
    obtain ⟨a', zs, ea, hq, rr⟩ := rdL_sq R' r' q
    cases ea
    simp only [q, Option.map_some]
    cases e2 : ys[i]? with
    | none => exact ⟨zs, hq, by rw [← rr.length]; exact List.getElem?_eq_none_iff.mp e2⟩
    | some y =>
      obtain ⟨z, hz, rz⟩ := rr.get e2
      refine ⟨⟨zs, z, hq, hz⟩, fun u H2 ⟨eH, hy⟩ => ?_⟩
      subst eH
      have := hy zs hq
      rw [hz] at this
      cases this
      exact ⟨b', Ext.refl _ _, R', rz⟩
theorem wk_tup {xs : List AV} {a : Addr} (R : Rep K cls b h H) (r : RelT K b H (.tup xs) (.ref a)) : WkJ K cls ⟨xs.length, true, fun _ i => some (xs[i]?)⟩ (Itt K a) b H := by
  refine wkj R.nf r (fun z => rfl) fun i b' h' H' r' R' => ?_
  obtain ⟨a', zs, ea, hq, rr⟩ := tup_sq r'
  cases ea
  cases e2 : xs[i]? with
  | none => simp only [e2]; exact ⟨zs, hq, by rw [← rr.length]; exact List.getElem?_eq_none_iff.mp e2⟩
  | some y =>
    obtain ⟨z, hz, rz⟩ := rr.get e2
    simp only [e2]
    refine ⟨⟨zs, z, hq, hz⟩, fun u H2 ⟨eH, hy⟩ => ?_⟩
    subst eH
    have := hy zs hq
    rw [hz] at this
    cases this
    exact ⟨b', Ext.refl _ _, R', rz⟩
theorem wk_rng {lo : Int} {n : Nat} : WkJ K cls (wkRng lo n) (Itr lo n) b H := by
  have t : ∀ i b' h' H', Rep K cls b' h' H' → TurnOk K cls ((wkRng lo n).item h' i) (Itr lo n) i b' h' H' := fun i b' h' H' R' => by
    simp only [wkRng]
    by_cases hi : i < n
    · rw [if_pos hi]
      refine ⟨hi, fun u H2 ⟨e1, e2⟩ => ?_⟩
      subst e1; subst e2
      exact ⟨b', Ext.refl _ _, R', .int _⟩
    · rw [if_neg hi]
      exact Nat.le_of_not_lt hi
  exact ⟨fun i b' h' H' _ => t i b' h' H', fun _ i b' h' H' _ => t i b' h' H'⟩
theorem wk_rngC {lo c : Int} {n : Nat} : WkJ K cls (wkRngC lo c n) (Itc lo c n) b H := by
  have t : ∀ i b' h' H', Rep K cls b' h' H' → TurnOk K cls ((wkRngC lo c n).item h' i) (Itc lo c n) i b' h' H' := fun i b' h' H' R' => by
    simp only [wkRngC]
    by_cases hi : i < n
    · rw [if_pos hi]
      refine ⟨hi, fun u H2 ⟨e1, e2⟩ => ?_⟩
      subst e1; subst e2
      exact ⟨b', Ext.refl _ _, R', .int _⟩
    · rw [if_neg hi]
      exact Nat.le_of_not_lt hi
  exact ⟨fun i b' h' H' _ => t i b' h' H', fun _ i b' h' H' _ => t i b' h' H'⟩
/-- the tuple that a turn makes -/
theorem turn_tup {xs : List AV} {ys : List V} {p : Addr} (R : Rep K cls b h H) (hp : H p = none) (rs : RelAs K b H xs ys) : ∃ b2, Ext b H b2 (upd H p (.tup ys)) ∧ Rep K cls b2 h (upd H p (.tup ys)) ∧ RelA K b2 (upd H p (.tup ys)) (.tup xs) (.ref p) := by
  obtain ⟨x, R'⟩ := R.fz hp (.tup ys)
  exact ⟨_, x, R', .tup (.inr rfl) upd_same (rs.mono R.nf x)⟩
theorem wk_enum {v : AV} {a : Addr} {xs : List AV} (R : Rep K cls b h H) (r : RelT K b H v (.ref a)) (e : rdL h v = some xs) : WkJ K cls ⟨xs.length, keepable v, fun h i => (rdL h v).map fun xs => xs[i]?.map fun x => .tup [.int i, x]⟩ (Ite K a) b H := by
  refine wkj R.nf r (fun z => z) fun i b' h' H' r' R' => ?_
  cases q : rdL h' v with
  | none => simp only [q, Option.map_none]; exact trivial
  | some ys =>
    obtain ⟨a', zs, ea, hq, rr⟩ := rdL_sq R' r' q
    cases ea
    simp only [q, Option.map_some]
    cases e2 : ys[i]? with
    | none => exact ⟨zs, hq, by rw [← rr.length]; exact List.getElem?_eq_none_iff.mp e2⟩
    | some y =>
      obtain ⟨z, hz, rz⟩ := rr.get e2
      refine ⟨⟨zs, z, hq, hz⟩, fun u H2 ⟨T, x, eu, hT, eH, hy⟩ => ?_⟩
      subst eu; subst eH
      have := hy zs hq
      rw [hz] at this
      cases this
      exact turn_tup R' hT (.cons (.int _) (.cons rz .nil))
theorem wk_zip {v w : AV} {a c : Addr} {xs ys : List AV} (R : Rep K cls b h H) (r : RelT K b H v (.ref a)) (r2 : RelT K b H w (.ref c)) (e : rdL h v = some xs) (e2 : rdL h w = some ys) :
    WkJ K cls ⟨min xs.length ys.length, keepable v && keepable w, fun h i => match rdL h v, rdL h w with
    | some xs, some ys => some (match xs[i]?, ys[i]? with
      | some x, some y => some (.tup [x, y])
      | _, _ => none)
    | _, _ => none⟩ (Itz K a c) b H := by
  have t : ∀ i b' h' H', RelT K b' H' v (.ref a) → RelT K b' H' w (.ref c) → Rep K cls b' h' H' → TurnOk K cls (match rdL h' v, rdL h' w with
    | some xs, some ys => some (match xs[i]?, ys[i]? with
      | some x, some y => some (.tup [x, y])
      | _, _ => none)
    | _, _ => none) (Itz K a c) i b' h' H' := by
    intro i b' h' H' r r2 R'
    cases q : rdL h' v with
    | none => exact trivial
    | some ys =>
      cases q2 : rdL h' w with
      | none => exact trivial
      | some ys2 =>
        obtain ⟨a', zs, ea, hq, rr⟩ := rdL_sq R' r q
        cases ea
        obtain ⟨a', zs2, ea, hq2, rr2⟩ := rdL_sq R' r2 q2
        cases ea
        simp only
        cases e1 : ys[i]? with
        | none => exact ⟨zs, zs2, hq, hq2, .inl (by rw [← rr.length]; exact List.getElem?_eq_none_iff.mp e1)⟩
        | some y =>
          cases e3 : ys2[i]? with
          | none => exact ⟨zs, zs2, hq, hq2, .inr (by rw [← rr2.length]; exact List.getElem?_eq_none_iff.mp e3)⟩
          | some y2 =>
            obtain ⟨z, hz, rz⟩ := rr.get e1
            obtain ⟨z2, hz2, rz2⟩ := rr2.get e3
            refine ⟨⟨zs, zs2, z, z2, hq, hq2, hz, hz2⟩, fun u H2 ⟨T, x, x2, eu, hT, eH, hy, hy2⟩ => ?_⟩
            subst eu; subst eH
            have e4 := hy zs hq
            rw [hz] at e4
            cases e4
            have e5 := hy2 zs2 hq2
            rw [hz2] at e5
            cases e5
            exact turn_tup R' hT (.cons rz (.cons rz2 .nil))
  refine ⟨fun i b' h' H' x R' => t i b' h' H' (r.mono R.nf x) (r2.mono R.nf x) R', fun hst i b' h' H' x R' => ?_⟩
  have hst : (keepable v && keepable w) = true := hst
  rw [Bool.and_eq_true] at hst
  exact t i b' h' H' (r.monoW hst.1 x) (r2.monoW hst.2 x) R'
end
end R

end

section
set_option Elab.async false
set_option linter.all false
/-! The runner, part G: lists that one place owns; comprehensions. -/
namespace R
open PySem PySem.Spec L2
section
variable {K : PySem.W.Frag} {cls : Nat → Addr} {b b1 b2 : Ab} {h : AH} {H H1 H2 H0 : Hp} {E : XK} {Q : VK} {D : Addr} {o : HO}
theorem Sim.later {α : Type} {r : Res α} {k : Ab → AH → Hp → α → Prop} (x : Ext b H b1 H1) (s : Sim K cls b H r k E) : Sim K cls b1 H1 r k E := by
  cases r with
  | ok a h' => exact fun b' H' y R => s b' H' (x.trans y) R
  | exc c h' => exact fun b' H' d y R => s b' H' d (x.trans y) R
  | stuck => exact s
theorem Sim.nox {α : Type} {r : Res α} {k : Ab → AH → Hp → α → Prop} {E' : XK} (s : Sim K cls b H r.nox k E) : Sim K cls b H r k E' := by
  cases r with
  | ok a h' => exact s
  | exc c h' => exact s.elim
  | stuck => exact s.elim
theorem wext_own (hF : ¬ b.F D) : WExt b H b (upd H D o) := ⟨List.prefix_refl _, fun _ z => z, fun a u z e => by rw [upd_ne (fun q => hF (by rw [← q]; exact z))]; exact e⟩
theorem Rep.own (R : Rep K cls b h H) (hF : ¬ b.F D) (hρ : D ∉ b.ρ) : Rep K cls b h (upd H D o) :=
  ⟨R.len, R.nd, R.nf, fun a z => let ⟨u, e⟩ := R.fs a z; ⟨u, by rw [upd_ne (fun q => hF (by rw [← q]; exact z))]; exact e⟩, fun n u a e1 e2 => by
    rw [upd_ne (fun q => hρ (by rw [← q]; exact List.mem_of_getElem? e2))]
    exact (R.ob n u a e1 e2).monoW (wext_own hF)⟩
theorem Ext.own (x : Ext b1 H1 b H) (hD : H1 D = none) : Ext b1 H1 b (upd H D o) :=
  ⟨x.pre, x.newρ, x.fr, x.newF, fun a u e hn => by rw [upd_ne (ne_of_none e hD)]; exact x.keep a u e hn, fun a e => by
    by_cases ha : a = D
    · rw [ha]; exact hD
    · rw [upd_ne ha] at e; exact x.dom a e⟩
/-- a list that was built at D is handed on -/
theorem mkL_at {k : Kd} {xs : List AV} {ys : List V} (R : Rep K cls b h H) (rs : RelAs K b H xs ys) (hF : ¬ b.F D) (hρ : D ∉ b.ρ) (hD : H D = some (.lst ys)) (x : Ext b1 H1 b H) (n1 : H1 D = none) (n0 : H0 D = none)
    (s : Sim K cls b1 H1 (mkL k xs h) (kW K H0 Q) E) : Q (.ref D) H := by
  unfold mkL at s
  by_cases hl : xs.length ≤ lim
  · rw [if_pos hl] at s
    cases k with
    | fz =>
      have w : WExt b H ⟨b.ρ, fun a => b.F a ∨ a = D⟩ H := ⟨List.prefix_refl _, fun _ z => .inl z, fun _ _ _ e => e⟩
      refine s ⟨b.ρ, fun a => b.F a ∨ a = D⟩ H ⟨x.pre, x.newρ, fun a z => .inl (x.fr a z), fun a z => z.elim (x.newF a) fun e => .inr (by rw [e]; exact n1), x.keep, x.dom⟩
        ⟨R.len, R.nd, fun a ha z => z.elim (R.nf a ha) fun e => hρ (by rw [← e]; exact ha), fun a z => z.elim (R.fs a) fun e => ⟨.lst ys, by rw [e]; exact hD⟩, fun n u a e1 e2 => (R.ob n u a e1 e2).monoW w⟩ _ (RelA.lst (.inr rfl) hD (rs.monoW w)) fun _ _ e => by cases e
    | hp =>
      have w : WExt b H ⟨b.ρ ++ [D], b.F⟩ H := ⟨List.prefix_append _ _, fun _ z => z, fun _ _ _ e => e⟩
      refine s ⟨b.ρ ++ [D], b.F⟩ H ⟨x.pre.trans (List.prefix_append _ _), fun a z => (List.mem_append.mp z).elim (x.newρ a) fun e => .inr (by rw [List.mem_singleton.mp e]; exact n1), x.fr, x.newF, x.keep, x.dom⟩
        ⟨by simp [R.len], nd_snoc R.nd hρ, fun a ha => (List.mem_append.mp ha).elim (R.nf a) fun e => by rw [List.mem_singleton.mp e]; exact hF, R.fs, fun n u a e1 e2 => ?_⟩ _ (RelA.ref ?_) fun _ _ e => by cases e
      · by_cases hn : n < h.length
        · rw [List.getElem?_append_left hn] at e1
          have e2 : b.ρ[n]? = some a := by rw [List.getElem?_append_left (by rw [R.len]; exact hn)] at e2; exact e2
          exact (R.ob n u a e1 e2).monoW w
        · rw [List.getElem?_append_right (by omega)] at e1
          have e2 : [D][n - b.ρ.length]? = some a := by rw [List.getElem?_append_right (by rw [R.len]; omega)] at e2; exact e2
          have hl := R.len
          have h0 : n - h.length = 0 := by
            have := (List.getElem?_eq_some_iff.mp e1).1
            simp at this; omega
          rw [h0] at e1
          rw [hl, h0] at e2
          have e1 : AO.lst xs = u := Option.some.inj e1
          have e2 : D = a := Option.some.inj e2
          subst e1; subst e2
          exact ⟨ys, hD, rs.monoW w⟩
      · show (b.ρ ++ [D])[h.length]? = some D
        rw [← R.len]; simp
    | ow => exact s b H x R _ ⟨D, ys, rfl, hF, hρ, hD, rs⟩ fun _ a _ e => by cases e; exact n0
  · rw [if_neg hl] at s
    exact s.elim
theorem wipe_out {σ : St} : ∀ {vs : List Nat} {i : Nat}, i ∉ vs → (wipe σ vs)[i]? = σ[i]?
  | [], _, _ => rfl
  | v :: vs, i, h => by
    unfold wipe
    rw [List.getElem?_set_ne (fun e => h (by simp [e]))]
    exact wipe_out fun z => h (List.mem_cons_of_mem _ z)
theorem wipe_in {σ : St} : ∀ {vs : List Nat} {i : Nat}, i ∈ vs → (wipe σ vs)[i]? = if i < σ.length then some none else none
  | [], _, h => by cases h
  | v :: vs, i, h => by
    unfold wipe
    by_cases hv : v = i
    · subst hv
      by_cases hl : v < σ.length
      · rw [if_pos hl, List.getElem?_set_self (by rw [wipe_length]; exact hl)]
      · rw [if_neg hl]
        exact List.getElem?_eq_none (by simp [wipe_length]; omega)
    · rw [List.getElem?_set_ne hv]
      exact wipe_in ((List.mem_cons.mp h).resolve_left fun e => hv e.symm)
theorem wipe_ext {σ σ' : St} {vs : List Nat} (hl : σ.length = σ'.length) (h : ∀ (i : Nat), i ∉ vs → σ[i]? = σ'[i]?) : wipe σ vs = wipe σ' vs := by
  apply List.ext_getElem?
  intro i
  by_cases hi : i ∈ vs
  · rw [wipe_in hi, wipe_in hi, hl]
  · rw [wipe_out hi, wipe_out hi, h i hi]
theorem wipeA_len (σ : AS) : ∀ vs : List Nat, (wipeA σ vs).length = σ.length
  | [] => rfl
  | v :: vs => by unfold wipeA; rw [List.length_set, wipeA_len σ vs]
theorem wipeA_some {σ : AS} {i : Nat} {x : AV} : ∀ {vs : List Nat}, (wipeA σ vs)[i]? = some (some x) → σ[i]? = some (some x) ∧ i ∉ vs
  | [], h => ⟨h, by simp⟩
  | v :: vs, h => by
    unfold wipeA at h
    by_cases hi : v = i
    · subst hi
      by_cases hv : v < (wipeA σ vs).length
      · rw [List.getElem?_set_self hv] at h; cases h
      · rw [List.getElem?_eq_none (by simpa using hv)] at h; cases h
    · rw [List.getElem?_set_ne hi] at h
      obtain ⟨h1, h2⟩ := wipeA_some h
      exact ⟨h1, by simp only [List.mem_cons, not_or]; exact ⟨fun e => hi e.symm, h2⟩⟩
theorem Sr.wipe {σ : AS} {σc : St} (S : Sr K b H σ σc) (vs : List Nat) : Sr K b H (wipeA σ vs) (L2.wipe σc vs) :=
  ⟨by rw [wipeA_len, wipe_length]; exact S.len, fun i v e => by
    obtain ⟨e1, hi⟩ := wipeA_some e
    obtain ⟨u, e2, r⟩ := S.rel i v e1
    exact ⟨u, by rw [wipe_out hi]; exact e2, r⟩⟩
/-- the turns of a comprehension -/
theorem comp_turns {σ : AS} {σc : St} {vs : List Nat} {t : Tg} {w : Wk} {J : L2.It} {k : Kd} {fc : AS → AH → Res Bool} {fe : AS → AH → Res AV} {tt : TT} {te : TE}
    (htt : ∀ σ2 σc2 b2 h2 H2 Q2, Rep K cls b2 h2 H2 → Sr K b2 H2 σ2 σc2 → Sim K cls b2 H2 (fc σ2 h2) (fun _ _ H' c => Q2 c H') E0 → tt σc2 H2 Q2)
    (hte : ∀ σ2 σc2 b2 h2 H2 Q2, Rep K cls b2 h2 H2 → Sr K b2 H2 σ2 σc2 → Sim K cls b2 H2 (fe σ2 h2) (kW K H2 Q2) E0 → te σc2 H2 Q2)
    (R1 : Rep K cls b1 h H1) (S1 : Sr K b1 H1 σ σc) (hJ : WkJ K cls w J b1 H1) (hts : (tgSlots t).all (fun i => vs.contains i) = true) (dm : ∀ p, H1 p = none → H0 p = none) (hn : w.n ≤ lim)
    (s : Sim K cls b1 H1 ((compGo w.item (fun v h2 => ((ofOpt (setT t v (wipeA σ vs)) h2).bind fun σ2 h3 => (fc σ2 h3).bind fun b h4 => match b with
        | false => .ok none h4
        | true => (fe σ2 h4).bind fun y h5 => if keepable y then .ok (some y) h5 else .stuck).nox) w.n 0 [] h).bind fun xs h2 => mkL k xs h2) (kW K H0 Q) E)
    (hD : H1 D = none) : ∃ W : Nat → Nat → Hp → Prop, (∃ m, W 0 m (upd H1 D (.lst []))) ∧ ∀ i m H, W i m H →
      (J.stop i H ∧ Q (.ref D) H) ∨ (J.go i H ∧ ∃ Nx : Hp → Prop, (∀ H', Nx H' → ∃ m', m' < m ∧ W (i + 1) m' H') ∧ ∀ x H', J.yld i H x H' → gR K t x (wipe σc vs) H' fun σ2 H2 => wipe σ2 vs = wipe σc vs ∧ tt σ2 H2 fun b H3 =>
        if b = true then te σ2 H3 fun y H4 => ∃ acc, H4 D = some (.lst acc) ∧ acc.length < sizeLine ∧ Nx (upd H4 D (.lst (acc ++ [y]))) else Nx H3) := by
  generalize hturn : (fun v h2 => ((ofOpt (setT t v (wipeA σ vs)) h2).bind fun σ2 h3 => (fc σ2 h3).bind fun b h4 => match b with
        | false => .ok none h4
        | true => (fe σ2 h4).bind fun y h5 => if keepable y then .ok (some y) h5 else .stuck).nox : AV → AH → Res (Option AV)) = turn at s
  refine ⟨fun i m H => ∃ b' h' acc ys, Ext b1 H1 b' H ∧ Rep K cls b' h' H ∧ H D = some (.lst ys) ∧ RelAs K b' H acc ys ∧ ¬ b'.F D ∧ D ∉ b'.ρ ∧ i + m = w.n ∧ acc.length ≤ i ∧
    Sim K cls b1 H1 ((compGo w.item turn m i acc h').bind fun xs h2 => mkL k xs h2) (kW K H0 Q) E, ⟨w.n, ?_⟩, ?_⟩
  · obtain ⟨x, R', nF, nρ⟩ := R1.ow hD (.lst [])
    exact ⟨b1, h, [], [], x, R', upd_same, .nil, nF, nρ, by omega, Nat.le_refl _, s⟩
  · rintro i m H ⟨b', h', acc, ys, x, R', hDy, rs, hF, hρ, hm, hacc, s⟩
    have tj := hJ.e i b' h' H x R'
    have fin : w.item h' i = some none → Sim K cls b1 H1 (mkL k acc h') (kW K H0 Q) E → (J.stop i H ∧ Q (.ref D) H) := fun e s => by
      rw [e] at tj
      exact ⟨tj, mkL_at R' rs hF hρ hDy x hD (dm D hD) s⟩
    cases m with
    | zero =>
      unfold compGo at s
      cases q : w.item h' i with
      | none => rw [q] at s; exact s.elim
      | some o =>
        cases o with
        | none => rw [q] at s; exact .inl (fin q s)
        | some v => rw [q] at s; exact s.elim
    | succ m =>
      unfold compGo at s
      cases q : w.item h' i with
      | none => rw [q] at s; exact s.elim
      | some o =>
        cases o with
        | none => rw [q] at s; exact .inl (fin q s)
        | some v =>
          rw [q] at s tj
          obtain ⟨tgo, ty⟩ := tj
          refine .inr ⟨tgo, fun H' => ∃ b' h' acc ys, Ext b1 H1 b' H' ∧ Rep K cls b' h' H' ∧ H' D = some (.lst ys) ∧ RelAs K b' H' acc ys ∧ ¬ b'.F D ∧ D ∉ b'.ρ ∧ i + 1 + m = w.n ∧ acc.length ≤ i + 1 ∧
            Sim K cls b1 H1 ((compGo w.item turn m (i + 1) acc h').bind fun xs h2 => mkL k xs h2) (kW K H0 Q) E, fun H' z => ⟨m, Nat.lt_succ_self _, z⟩, fun u H2 hy => ?_⟩
          obtain ⟨b2, x2, R2, rv⟩ := ty u H2 hy
          have keepD : ∀ b3 H3, Ext b' H b3 H3 → H3 D = some (.lst ys) ∧ ¬ b3.F D ∧ D ∉ b3.ρ := fun b3 H3 y => ⟨y.keep D _ hDy hρ, (fun z => (y.newF D z).elim hF fun e => (by rw [hDy] at e; cases e)), (fun z => (y.newρ D z).elim hρ fun e => (by rw [hDy] at e; cases e))⟩
          have et : turn v h' = (((ofOpt (setT t v (wipeA σ vs)) h').bind fun σ2 h3 => (fc σ2 h3).bind fun b h4 => match b with
            | false => .ok none h4
            | true => (fe σ2 h4).bind fun y h5 => if keepable y then .ok (some y) h5 else .stuck).nox) := by rw [← hturn]
          simp only [et] at s
          cases q2 : setT t v (wipeA σ vs) with
          | none => simp only [q2, ofOpt, Res.bind, Res.nox] at s; exact s.elim
          | some σ2 =>
            simp only [q2, ofOpt, Res.bind] at s
            have x12 := x.trans x2
            have Sw := (S1.wipe vs).mono R1.nf x12
            refine ⟨b2, v, wipeA σ vs, σ2, rv, Sw.len, q2, fun σc2 up => ⟨?_, ?_⟩⟩
            · refine wipe_ext (by rw [up.l2, wipe_length]) fun j hj => ?_
              have hjt : j ∉ tgSlots t := fun z => hj (by
                have := List.all_eq_true.mp hts j z
                simpa using this)
              rw [(up.out j hjt).2, wipe_out hj]
            · cases q3 : fc σ2 h' with
              | stuck => simp only [q3, Res.nox] at s; exact s.elim
              | exc c h3 => simp only [q3, Res.nox] at s; exact s.elim
              | ok c h3 =>
                simp only [q3] at s
                refine htt σ2 σc2 b2 h' H2 _ R2 (up.sr Sw) ?_
                rw [q3]
                intro b3 H3 x3 R3
                have x23 := x2.trans x3
                obtain ⟨d1, d2, d3⟩ := keepD b3 H3 x23
                cases c with
                | false =>
                  rw [if_neg Bool.false_ne_true]
                  exact ⟨b3, h3, acc, ys, x.trans x23, R3, d1, rs.mono R'.nf x23, d2, d3, by omega, by omega, s⟩
                | true =>
                  rw [if_pos rfl]
                  cases q4 : fe σ2 h3 with
                  | stuck => simp only [q4, Res.nox] at s; exact s.elim
                  | exc c h4 => simp only [q4, Res.nox] at s; exact s.elim
                  | ok y h4 =>
                    simp only [q4] at s
                    cases kp : keepable y with
                    | false => simp only [kp, Res.nox] at s; exact s.elim
                    | true =>
                      simp only [kp, if_true, Res.nox] at s
                      refine hte σ2 σc2 b3 h3 H3 _ R3 ((up.sr Sw).mono R2.nf x3) ?_
                      rw [q4]
                      intro b4 H4 x4 R4 u ru _
                      have x24 := x23.trans x4
                      obtain ⟨d1, d2, d3⟩ := keepD b4 H4 x24
                      refine ⟨ys, d1, lim_lt (by rw [← rs.length]; omega), b4, h4, acc ++ [y], ys ++ [u], (x.trans x24).own hD, R4.own d2 d3, upd_same, ((rs.mono R'.nf x24).append (.cons (ru.keep kp) .nil)).monoW (wext_own d2), d2, d3, by omega, by simp; omega, s⟩
end
end R

end

section
set_option Elab.async false
set_option linter.all false
/-! The runner, part H: every checked expression is sound. -/
namespace R
open PySem PySem.Spec L2
theorem lookup_rel {sc : Scope} {k : NameKind} (hk : k = .local ∨ k = .cell) : ∀ {names : List (Str × NameKind)} {x : Str}, names.lookup x = some k →
    (names.map fun (n, k) => if (k == NameKind.free && sc.kind == .function && sc.names.lookup n == some .cell) then (n, NameKind.cell) else (n, k)).lookup x = some k
  | [], _, h => by simp at h
  | (n, k') :: r, x, h => by
    have ih := lookup_rel (sc := sc) hk (names := r) (x := x)
    rw [List.map_cons]
    cases hx : x == n with
    | true =>
      rw [List.lookup_cons, hx] at h
      have e : k' = k := Option.some.inj h
      subst e
      have : (if (k' == NameKind.free && sc.kind == .function && sc.names.lookup n == some .cell) = true then (n, NameKind.cell) else (n, k')) = (n, k') := by
        rcases hk with e | e <;> (rw [e]; rfl)
      rw [show (match (n, k') with | (n, k) => if (k == NameKind.free && sc.kind == .function && sc.names.lookup n == some .cell) = true then (n, NameKind.cell) else (n, k)) = (n, k') from this]
      rw [List.lookup_cons, hx]
    | false =>
      rw [List.lookup_cons, hx] at h
      have := ih h
      simp only
      split
      · rw [List.lookup_cons, hx]; exact this
      · rw [List.lookup_cons, hx]; exact this
theorem vis_of {sc : Scope} {x : Str} (h : vis sc x = true) : Vis sc x := by
  unfold vis at h
  split at h
  · exact .inl (by assumption)
  · exact .inr (.inl (by assumption))
  · exact .inr (.inr (by assumption))
  · cases h
theorem gl_of {sc : Scope} {x : Str} (h : gl sc x = true) : sc.names.lookup x = some .globalImplicit := by
  unfold gl at h
  split at h
  · assumption
  · cases h
theorem loc_of {sc : Scope} {x : Str} (h : loc sc x = true) : sc.names.lookup x = some .local ∨ sc.names.lookup x = some .cell := by
  unfold loc at h
  split at h
  · exact .inl (by assumption)
  · exact .inr (by assumption)
  · cases h
theorem nm1 {x : Str} (h : nmOk x = true) : (x == ("__debug__" : Str)) = false := by
  unfold nmOk at h
  simp only [Bool.and_eq_true, Bool.not_eq_true'] at h
  exact h.1
theorem nm2 {x : Str} (h : nmOk x = true) : (x == ("__classdict__" : Str)) = false := by
  unfold nmOk at h
  simp only [Bool.and_eq_true, Bool.not_eq_true'] at h
  exact h.2
section
variable {Z : Stat} {cls : Nat → Addr} {cl : Cl} {CX : CXT} {E : XK} {X : Cx} {sc : Scope}
theorem Cok.blk (c : Cok Z cls cl CX E X sc) (s : Shared) (H : Hp) (scope : Scope) (C : Addr) (cls' : List (Str × Addr)) (fp : List Addr) : Cok Z cls cl CX E0 (X.blk s H scope (compEnvC scope cls' C X.env) fp) (relS scope sc) := by
  have e := c.hsc
  subst e
  exact ⟨c.hN, c.nd, rfl, c.calm, c.un, c.gd, c.nob, c.nor, c.noe, c.noz, c.noi, c.nobt, c.gcs, (let ⟨k, q⟩ := c.cs; ⟨k, q.room, fun f x h => (let ⟨fa, p, r⟩ := q.cal f x h; ⟨fa, p.zero, r⟩), fun c i m f h1 h2 => (let ⟨fa, p, r⟩ := q.mets c i m f h1 h2; ⟨fa, p.zero, r⟩), fun c i f h1 h2 => (let ⟨fa, p, r⟩ := q.inits c i f h1 h2; ⟨fa, p.zero, r⟩)⟩), c.clsok, c.kit, fun _ _ _ _ _ _ _ h => (c.no0 _ _ _ _ _ h).elim, PassesOwn.never, c.no0⟩
theorem gok_blk (s : Shared) (H : Hp) (scope : Scope) (C : Addr) (cls' : List (Str × Addr)) (fp : List Addr) : Gok (X.blk s H scope (compEnvC scope cls' C X.env) fp) scope := fun x hx => by
  rcases loc_of hx with h | h
  · have := lookup_rel (sc := X.env.scope) (.inl rfl) h
    exact ⟨.inl this, .inr this⟩
  · have := lookup_rel (sc := X.env.scope) (.inr rfl) h
    refine ⟨.inr this, .inl ?_⟩
    show (scope.names.lookup x == some .cell) = true
    rw [h]; rfl
theorem chkE_star {e : R.E} {x : Expr} (h : chkE Z sc e x = true) (env : Env) (xs : List Expr) : starEach (x :: xs) env = (false, eval x env) :: starEach xs env := by
  cases x with
  | Starred v p => cases e <;> cases h
  | _ => rfl
theorem chkE_set {e : R.E} {x : Expr} (h : chkE Z sc e x = true) (env : Env) (v : Value) : foldedSetIterable x env v = pure v := by
  cases x with
  | Set v p q => cases e <;> cases h
  | _ => rfl
theorem chkE_slice {e : R.E} {x : Expr} (h : chkE Z sc e x = true) : PlainIx x := by
  intro o i
  cases x with
  | Slice a b c p => cases e <;> cases h
  | _ => rfl
theorem chkEs_star : ∀ {es : Es} {xs : List Expr}, chkEs Z sc es xs = true → ∀ (pos : Pos) (env : Env), (backTo pos (starEach xs env)).any (·.1) = false
  | .nil, [], _, _, _ => rfl
  | .nil, _ :: _, h, _, _ => by cases h
  | .cons _ _, [], h, _, _ => by cases h
  | .cons e es, x :: xs, h, pos, env => by
    simp only [chkEs, Bool.and_eq_true] at h
    rw [chkE_star h.1]
    exact chkEs_star h.2 pos env
theorem plain_test {e : R.E} {x : Expr} (h : chkE Z sc e x = true) (hp : plainT x = true) (hc : ∀ l ops rs p, x ≠ .Compare l ops rs p) (env : Env) (whole : Sem Value) : PySem.isTrue x env whole = (do
    let v ← whole
    standAt x.pos
    holding [v] (truthy v)) := by
  cases x with
  | Compare l ops rs p => exact absurd rfl (hc l ops rs p)
  | BoolOp o v p => cases hp
  | IfExp a b c p => cases hp
  | UnaryOp o v p => cases o <;> first | rfl | cases hp
  | _ => rfl
/-- two values in a row -/
theorem sim_two {K : PySem.W.Frag} {b : Ab} {h : AH} {H : Hp} {σ : AS} {σc : St} {α : Type} {fa fb : AS → AH → Res AV} {g : AV → AV → AH → Res α} {k : Ab → AH → Hp → α → Prop} {r : V → V → Hp → Prop}
    (R : Rep K cls b h H) (S : Sr K b H σ σc) (s : Sim K cls b H ((fa σ h).bind fun x h1 => (fb σ h1).bind fun y h2 => g x y h2) k E)
    (step : ∀ b2 h2 H2 x y u w, Rep K cls b2 h2 H2 → Ext b H b2 H2 → RelT K b2 H2 x u → RelT K b2 H2 y w → Sim K cls b2 H2 (g x y h2) k E → r u w H2) :
    tR K cls E fa σc H fun u H1 => tR K cls E fb σc H1 fun w H2 => r u w H2 := by
  refine ⟨b, h, σ, R, S, s.bind.mono fun b1 h1 H1 x x1 R1 s1 u ru _ => ?_⟩
  refine ⟨b1, h1, σ, R1, S.mono R.nf x1, s1.bind.mono fun b2 h2 H2 y x2 R2 s2 w rw_ _ => ?_⟩
  exact step b2 h2 H2 x y u w R2 (x1.trans x2) (ru.mono R1.nf x2) rw_ s2
theorem sim_one {K : PySem.W.Frag} {b : Ab} {h : AH} {H : Hp} {σ : AS} {σc : St} {α : Type} {fa : AS → AH → Res AV} {g : AV → AH → Res α} {k : Ab → AH → Hp → α → Prop} {r : V → Hp → Prop}
    (R : Rep K cls b h H) (S : Sr K b H σ σc) (s : Sim K cls b H ((fa σ h).bind g) k E)
    (step : ∀ b2 h2 H2 x u, Rep K cls b2 h2 H2 → Ext b H b2 H2 → RelT K b2 H2 x u → Sim K cls b2 H2 (g x h2) k E → r u H2) :
    tR K cls E fa σc H r :=
  ⟨b, h, σ, R, S, s.bind.mono fun b1 h1 H1 x x1 R1 s1 u ru _ => step b1 h1 H1 x u R1 x1 ru s1⟩
theorem sim_T {K : PySem.W.Frag} {b : Ab} {h : AH} {H : Hp} {σ : AS} {σc : St} {α : Type} {fa : AS → AH → Res Bool} {g : Bool → AH → Res α} {k : Ab → AH → Hp → α → Prop} {r : Bool → Hp → Prop}
    (R : Rep K cls b h H) (S : Sr K b H σ σc) (s : Sim K cls b H ((fa σ h).bind g) k E)
    (step : ∀ b2 h2 H2 c, Rep K cls b2 h2 H2 → Ext b H b2 H2 → Sim K cls b2 H2 (g c h2) k E → r c H2) : tRT K cls E fa σc H r :=
  ⟨b, h, σ, R, S, s.bind.mono fun b1 h1 H1 c x1 R1 s1 => step b1 h1 H1 c R1 x1 s1⟩
theorem cmp_fin {K : PySem.W.Frag} {b : Ab} {h : AH} {H H0 : Hp} {o : C2} {x y : AV} {u w : V} {Q : VK} (R : Rep K cls b h H) (rx : RelT K b H x u) (ry : RelT K b H y w)
    (s : Sim K cls b H ((ofOpt (cmp2v o x y h) h).bind fun c h3 => .ok (.bl c) h3) (kW K H0 Q) E) : rC K o u w H Q := by
  cases e : cmp2v o x y h with
  | none => rw [e] at s; exact s.elim
  | some c =>
    rw [e] at s
    exact cmp_step R rx ry e (fin_bl R s)
end
end R

end

section
set_option Elab.async false
set_option linter.all false
/-! The runner, part I: every checked expression is sound. -/
namespace R
open PySem PySem.Spec L2
section
variable {Z : Stat} {cls : Nat → Addr} {cl : Cl} {CX : CXT}
theorem kW.dom {K : PySem.W.Frag} {H H1 : Hp} {Q : VK} {b : Ab} {h : AH} {H' : Hp} {v : AV} (dm : ∀ p, H1 p = none → H p = none) (k : kW K H Q b h H' v) : kW K H1 Q b h H' v := fun u r n => k u r fun xs a e1 e2 => dm a (n xs a e1 e2)
theorem bk_boot (f : Bl) : bootBuiltins (bkName f) = some (bkVal (bkOf f)) := by cases f <;> decide +kernel
theorem bk_n1 (f : Bl) : bkName f ≠ "__name__" := by cases f <;> decide +kernel
theorem bk_n2 (f : Bl) : (bkName f == ("__debug__" : Str)) = false := by cases f <;> decide +kernel
theorem peeked_own {v : AV} {xs : List AV} (e : peeked v = .own xs) : False := by cases v <;> cases e
theorem own_snd (Z : Stat) (vs : List Nat) : (ownOf Z vs).map (·.2) = vs := by
  unfold ownOf
  rw [List.map_map]
  exact List.map_id' vs
/-- what is walked: a list or a tuple -/
theorem pi_each {E : XK} {X : Cx} {tg x : Expr} {f : AS → AH → Res AV} (h : PE X x (tR X.K cls E f)) : PI X tg x (tRI X.K cls E fun σ h => (f σ h).bind fun v h1 => ofOpt (wkEach v h1) h1) := by
  intro pins s σc H R I q
  obtain ⟨b, ah, σ, Rp, S, sim⟩ := q
  have sim : Sim X.K cls b H ((f σ ah).bind fun v h1 => ofOpt (wkEach v h1) h1) (fun b' _ H' w => ∀ J, WkJ X.K cls w J b' H' → R J H') E := sim
  by_cases ht : ∃ xs h1, f σ ah = .ok (.tup xs) h1
  · obtain ⟨xs, h1, e⟩ := ht
    refine pi_tup h pins s σc H R I ⟨b, ah, σ, Rp, S, ?_⟩
    rw [e] at sim ⊢
    intro b' H' x' R' u ru _
    have sim := sim b' H' x' R'
    obtain ⟨a, ys, rfl, hq, rr⟩ := tup_sq ru
    exact ⟨a, rfl, ⟨ys, hq⟩, sim _ (wk_tup R' ru)⟩
  · refine pi_list h pins s σc H R I ⟨b, ah, σ, Rp, S, ?_⟩
    cases hf : f σ ah with
    | stuck => rw [hf] at sim; exact sim
    | exc c h' => rw [hf] at sim; exact sim
    | ok v h' =>
      have nt : ∀ xs, v ≠ .tup xs := fun xs e => ht ⟨xs, h', by rw [hf, e]⟩
      rw [hf] at sim
      intro b' H' x' R' u ru _
      have sim : Sim X.K cls b' H' (ofOpt (wkEach v h') h') (fun b' _ H' w => ∀ J, WkJ X.K cls w J b' H' → R J H') E := Sim.later x' sim
      have eq : rdQ h' v = rdL h' v := by cases v <;> first | rfl | exact absurd rfl (nt _)
      cases e : rdL h' v with
      | none =>
        unfold wkEach at sim
        rw [eq, e] at sim
        exact sim.elim
      | some xs =>
        obtain ⟨a, ys, rfl, hq, rr⟩ := rdL_sq R' ru e
        refine ⟨a, rfl, ⟨ys, hq⟩, ?_⟩
        unfold wkEach at sim
        rw [eq, e] at sim
        have hw := wk_list R' ru e
        refine Sim.here R' sim _ ?_
        have e2 : (fun h (i : Nat) => Option.map (fun x => x[i]?) (rdQ h v)) = (fun h (i : Nat) => Option.map (fun x => x[i]?) (rdL h v)) := by
          funext h i
          cases v <;> first | rfl | exact absurd rfl (nt _)
        rw [e2]
        exact hw
/-- lists that are kept nowhere yet: new, and none of them another one -/
inductive News (H : Hp) : List AV → List V → Prop
  | nil : News H [] []
  | cons {v : AV} {u : V} {vs : List AV} {us : List V} (n : ∀ xs a, v = .own xs → u = .ref a → H a = none) (r : News H vs us)
      (ap : ∀ (xs : List AV) (a c : Addr), v = .own xs → u = .ref a → ∀ ys, (AV.own ys, V.ref c) ∈ vs.zip us → a ≠ c) : News H (v :: vs) (u :: us)
theorem News.dom {H H1 : Hp} (dm : ∀ p, H1 p = none → H p = none) : ∀ {vs : List AV} {us : List V}, News H1 vs us → News H vs us
  | _, _, .nil => .nil
  | _, _, .cons n r ap => .cons (fun xs a e1 e2 => dm a (n xs a e1 e2)) (r.dom dm) ap
theorem News.new {H : Hp} : ∀ {vs : List AV} {us : List V} {ys : List AV} {c : Addr}, News H vs us → (AV.own ys, V.ref c) ∈ vs.zip us → H c = none
  | _, _, _, _, .nil, q => by cases q
  | _, _, ys, c, .cons n r ap, q => by
    rw [List.zip_cons_cons] at q
    rcases List.mem_cons.mp q with e | q
    · cases e; exact n _ _ rfl rfl
    · exact r.new q
def tRN (K : PySem.W.Frag) (cls : Nat → Addr) (E : XK) (f : AS → AH → Res (List AV)) : TA := fun σc H Q => ∃ b h σ, Rep K cls b h H ∧ Sr K b H σ σc ∧ Sim K cls b H (f σ h) (fun b' _ H' vs => ∀ us, RelTs K b' H' vs us → News H vs us → Q us H') E
theorem PI.mono {X : Cx} {tg x : Expr} {t t' : TI} (h : PI X tg x t) (m : ∀ σ H R, t' σ H R → t σ H R) : PI X tg x t' := fun pins s σ H R I q => h pins s σ H R I (m σ H R q)
theorem cst_PE {X : Cx} {E : XK} {v : AV} {c : Const} {k : Nat} {pos : Pos} (h : cstOk v c = true) : PE X (.Constant c k pos) (tR X.K cls E fun _ h => .ok v h) := by
  cases v with
  | non =>
    cases c with
    | none => exact PE.mono pe_non fun σc H Q ⟨b, h, σ, R, S, s⟩ => fin_keep R s (RelT.of .non) fun _ e => by cases e
    | _ => cases h
  | bl x =>
    cases c with
    | bool y =>
      have e : x = y := by simpa [cstOk] using h
      subst e
      exact PE.mono pe_bl fun σc H Q ⟨b, h, σ, R, S, s⟩ => fin_bl R s
    | _ => cases h
  | int x =>
    cases c with
    | int y =>
      have e : x = y := by simpa [cstOk] using h
      subst e
      exact PE.mono pe_int fun σc H Q ⟨b, h, σ, R, S, s⟩ => fin_int R s
    | _ => cases h
  | str x =>
    cases c with
    | str y =>
      have e : x = y := by simpa [cstOk] using h
      subst e
      exact PE.mono pe_str fun σc H Q ⟨b, h, σ, R, S, s⟩ => fin_keep R s (RelT.of (.str x)) fun _ e => by cases e
    | _ => cases h
  | _ => cases c <;> cases h
theorem gc_PE {E : XK} {X : Cx} {sc : Scope} (c : Cok Z cls cl CX E X sc) {x : Str} {v : AV} {pos : Pos} (hg : gl sc x = true) (hn : nmOk x = true) (h : gcOk Z x v = true) : PE X (.Name x pos) (tR X.K cls E fun _ h => .ok v h) := by
  unfold gcOk at h
  cases e : Z.gc.lookup x with
  | none => rw [e] at h; cases v <;> cases h
  | some w =>
    rw [e] at h
    obtain ⟨u, hm, r⟩ := c.gcs x w e
    have gg : Gl X x := by show X.env.scope.names.lookup x = _; rw [c.hsc]; exact gl_of hg
    cases v with
    | non =>
      cases w with
      | non => exact PE.mono (pe_glob gg hm r (nm1 hn)) fun σc H Q ⟨b, h, σ, R, S, s⟩ => fin_keep R s (RelT.of .non) fun _ e => by cases e
      | _ => cases h
    | bl y =>
      cases w with
      | bl z =>
        have e : z = y := by simpa using h
        subst e
        exact PE.mono (pe_glob gg hm r (nm1 hn)) fun σc H Q ⟨b, h, σ, R, S, s⟩ => fin_bl R s
      | _ => cases h
    | int y =>
      cases w with
      | int z =>
        have e : z = y := by simpa using h
        subst e
        exact PE.mono (pe_glob gg hm r (nm1 hn)) fun σc H Q ⟨b, h, σ, R, S, s⟩ => fin_int R s
      | _ => cases h
    | str y =>
      cases w with
      | str z =>
        have e : z = y := by simpa using h
        subst e
        exact PE.mono (pe_glob gg hm r (nm1 hn)) fun σc H Q ⟨b, h, σ, R, S, s⟩ => fin_keep R s (RelT.of (.str z)) fun _ e => by cases e
      | _ => cases h
    | _ => cases w <;> cases h
/-- the value of a test -/
theorem val_test {E : XK} {K : PySem.W.Frag} {f : AS → AH → Res AV} {σc : St} {H : Hp} {Q : Bool → Hp → Prop} (s : tRT K cls E (fun σ h => (f σ h).bind fun x h1 => ofOpt (truth h1 x) h1) σc H Q) : tR K cls E f σc H fun u H' => ∃ k, TruV K u H' k ∧ Q k H' := by
  obtain ⟨b, h, σ, R, S, s⟩ := s
  refine sim_one R S s fun b2 h2 H2 x u R2 x2 ru s2 => ?_
  cases e : truth h2 x with
  | none => rw [e] at s2; exact s2.elim
  | some c => rw [e] at s2; exact ⟨c, truth_step R2 ru e, s2.here R2⟩
theorem comp_tLc {E : XK} {K : PySem.W.Frag} {k : Kd} {t : Tg} {it : R.It} {d : To} {e : R.E} {vs : List Nat} (h6 : (tgSlots t).all (fun i => vs.contains i) = true) {σc : St} {H : Hp} {Q : VK}
    (s : tR K cls E (ev cl (.comp k t it d e vs)) σc H Q) : tLc (tRI K cls E (evI cl it)) (gR K t) (tRT K cls E0 (evc cl d)) (tR K cls E0 (ev cl e)) vs σc H Q := by
  obtain ⟨b, h, σ, R, S, s⟩ := s
  refine ⟨b, h, σ, R, S, s.bind.mono fun b2 h2 H2 w x2 R2 s2 J hJ D hD => ?_⟩
  by_cases hl : lim < w.n
  · simp only [if_pos hl] at s2; exact s2.elim
  · simp only [if_neg hl] at s2
    exact comp_turns (fc := evc cl d) (fe := ev cl e) (fun σ2 σc2 b2 h2 H2 Q2 R2 S2 s2 => ⟨b2, h2, σ2, R2, S2, s2⟩) (fun σ2 σc2 b2 h2 H2 Q2 R2 S2 s2 => ⟨b2, h2, σ2, R2, S2, s2⟩) R2 (S.mono R.nf x2) hJ h6 x2.dom (Nat.le_of_not_lt hl) s2 hD
theorem plainO_of {x : Expr} {m : Str} {env : Env} (h : plainO x = true) : attributeBase x m env (eval x env) = eval x env := by
  cases x with
  | Call fn as kws p =>
    cases fn with
    | Name y q =>
      cases as with
      | nil =>
        cases kws with
        | nil =>
          have h : (y != ("super" : Str)) = true := h
          show (if (y != ("super" : Str) || m == "__class__" || env.kindOf "super" != some .globalImplicit || env.kindOf "__class__" != some .free) = true then _ else _) = _
          rw [if_pos (by rw [h]; rfl)]
        | cons _ _ => rfl
      | cons _ _ => rfl
    | _ => rfl
  | _ => rfl
theorem chkE_mark {sc : Scope} {e : R.E} {x : Expr} (h : chkE Z sc e x = true) (op : CmpOp) : behindInMarks op x = false := by
  cases x with
  | Set v p q => cases e <;> cases h
  | _ => rfl
theorem lookup_memN {c f : Nat} : ∀ {l : List (Nat × Nat)}, l.lookup c = some f → (c, f) ∈ l
  | [], h => by simp at h
  | (a, b) :: l, h => by
    rw [List.lookup_cons] at h
    cases hx : c == a with
    | true =>
      rw [hx] at h
      cases h
      have : c = a := by simpa using hx
      subst this
      exact List.mem_cons_self
    | false =>
      rw [hx] at h
      exact List.mem_cons_of_mem _ (lookup_memN h)
theorem methD_inv {h : AH} {x : AV} {m : Str} {alts : List (Nat × Nat)} {f : Nat} (e : methD h x m alts = some f) : ∃ n c fs, x = .ref n ∧ h[n]? = some (.ins c fs) ∧ fs.lookup m = none ∧ alts.lookup c = some f := by
  unfold methD at e
  split at e
  · rename_i n
    split at e
    · rename_i c fs q
      split at e
      · rename_i hc
        exact ⟨n, c, fs, rfl, q, by simpa using hc, e⟩
      · cases e
    · cases e
  · cases e
theorem meth_eval {o : Expr} {m : Str} {ap pos : Pos} {args : List Expr} {env : Env} (h1 : plainO o = true) (h2 : methodCallForm (args.length + 0) (backTo pos (starEach args env)) (backToKw pos (keywordEach [] env)) = true) (h3 : (ap.endLine == pos.line) = true) :
    eval (.Call (.Attribute o m ap) args [] pos) env = (do
      let ov ← eval o env
      standAt ap.atName
      let (f, first) ← holding [ov] (getMethod ov m (do return (← importBound o env).getD true))
      callWith pos f first (backTo pos (starEach args env)) (backToKw pos (keywordEach [] env))) := by
  show (do
      let ov ← attributeBase o m env (eval o env)
      standAt ap.atName
      methodCall o m ap pos env ov (args.length + 0) (backTo pos (starEach args env)) (backToKw pos (keywordEach [] env))) = _
  rw [plainO_of h1]
  unfold methodCall calleeOf methodCallPos
  rw [h2, h3]
  rfl
theorem chkEs_all {sc : Scope} : ∀ {es : Es} {xs : List Expr}, chkEs Z sc es xs = true → ∀ (pos : Pos) (env : Env), (backTo pos (starEach xs env)).all (!·.1) = true
  | .nil, [], _, _, _ => rfl
  | .nil, _ :: _, h, _, _ => by cases h
  | .cons _ _, [], h, _, _ => by cases h
  | .cons e es, x :: xs, h, pos, env => by
    simp only [chkEs, Bool.and_eq_true] at h
    rw [chkE_star h.1]
    exact chkEs_all h.2 pos env
theorem form_ok {sc : Scope} {es : Es} {xs : List Expr} (h : chkEs Z sc es xs = true) (hl : xs.length < 30) {pos : Pos} {env : Env} : methodCallForm (xs.length + 0) (backTo pos (starEach xs env)) (backToKw pos (keywordEach [] env)) = true := by
  unfold methodCallForm
  rw [chkEs_all h]
  show (true && true && decide (xs.length + 0 + 0 < 30)) = true
  simpa using hl
theorem call_isc {X : Cx} (C : Addr) : CallR X (.builtin "isinstance") (fun xs H Q => ∃ x t b, xs = [x, .ref C] ∧ TyOf X.K H x t ∧ PySem.W.kitOne X.K t (.ref C) = some b ∧ Q (.bl b) H) := by
  intro pins s σ H xs us Q I r h
  obtain ⟨x, t, b, rfl, ty, k, q⟩ := h
  obtain ⟨u, w, rfl, ru, rw_⟩ := vals2 r
  cases rw_
  exact isinst_ok I ru ty k fun tk => ⟨.bl _, H, I.tok tk, rfl, q⟩
def tDI (neg : Bool) (ty td : TE) : TE := fun σ H Q => ty σ H fun y H1 => td σ H1 fun x H2 => ∃ a o, x = .ref a ∧ DGet H2 a y o ∧ Q (.bl (if neg then !o.isSome else o.isSome)) H2
theorem din_PC {X : Cx} {neg : Bool} {i o : Expr} {ty td : TE} (hu : X.A.units + 64 < cLine) (hi : PE X i ty) (ho : PE X o td) : PC X (if neg then .NotIn else .In) i o (tDI neg ty td) := by
  have hu' : X.A.units + 1 < cLine := Nat.lt_of_le_of_lt (Nat.add_le_add_left (by decide : 1 ≤ 64) _) hu
  cases neg with
  | false => exact pc_din hu' hi ho
  | true => exact pc_dnotin hu' hi ho
theorem in_op {X : Cx} (hu : X.A.units + 64 < cLine) (neg : Bool) : OpR X (compareOp (if neg then .NotIn else .In)) (rInB X.K neg) := by
  intro pins s σ H x y v u Q I rx ry h
  rcases h with h | h
  · cases neg with
    | false => exact op_in_seq _ _ _ _ _ _ _ _ _ I rx ry h
    | true => exact op_notIn_seq _ _ _ _ _ _ _ _ _ I rx ry h
  · exact op_inD hu neg _ _ _ _ _ _ _ _ _ I rx ry h
theorem din_run {E : XK} {K : PySem.W.Frag} {b : Ab} {h : AH} {H : Hp} {σ : AS} {σc : St} {α : Type} {fk fd : AS → AH → Res AV} {g : Option AV → AH → Res α} {k : Ab → AH → Hp → α → Prop} {neg : Bool} {Q : VK}
    (R : Rep K cls b h H) (S : Sr K b H σ σc) (s : Sim K cls b H ((fk σ h).bind fun y h1 => (fd σ h1).bind fun x h2 => (ofOpt (dLook h2 x y) h2).bind g) k E)
    (fin : ∀ b2 h2 H2 o, Rep K cls b2 h2 H2 → Sim K cls b2 H2 (g o h2) k E → Q (.bl (if neg then !o.isSome else o.isSome)) H2) : tDI neg (tR K cls E fk) (tR K cls E fd) σc H Q := by
  refine sim_two R S s fun b2 h2 H2 y x w u R2 x2 rw_ ru s2 => ?_
  cases e : dLook h2 x y with
  | none => rw [e] at s2; exact s2.elim
  | some o =>
    rw [e] at s2
    obtain ⟨a, o', eu, g', r⟩ := dLook_step R2 ru rw_ e
    refine ⟨a, o', eu, g', ?_⟩
    have : o'.isSome = o.isSome := by rcases r with ⟨rfl, rfl⟩ | ⟨v, z, rfl, rfl, _⟩ <;> rfl
    rw [this]
    exact fin b2 h2 H2 o R2 s2
mutual
theorem soundE : ∀ (e : R.E) {E : XK} {X : Cx} {sc : Scope} (c : Cok Z cls cl CX E X sc) (x : Expr), chkE Z sc e x = true → PE X x (tR X.K cls E (ev cl e))
  | .var i, E, X, sc, c, x, h => by
    cases x with
    | Name y pos =>
      simp only [chkE, Bool.and_eq_true, decide_eq_true_eq] at h
      obtain ⟨⟨h1, h2⟩, h3⟩ := h
      refine PE.mono (pe_var (by rw [c.hN]; exact h1) (by rw [c.hsc]; exact vis_of h2) (nm1 h3) (nm2 h3)) fun σc H Q ⟨b, h, σ, R, S, s⟩ => ?_
      simp only [ev] at s
      split at s
      · rename_i v e
        obtain ⟨u, e2, r⟩ := S.rel i v e
        exact ⟨u, e2, s.here R u r.peeked fun xs a e => (peeked_own e).elim⟩
      · exact s.elim
    | _ => cases h
  | .cst v, E, X, sc, c, x, h => by
    cases x with
    | Constant k j pos => exact cst_PE h
    | _ => cases h
  | .gcs y v, E, X, sc, c, x, h => by
    cases x with
    | Name z pos =>
      simp only [chkE, Bool.and_eq_true, decide_eq_true_eq] at h
      obtain ⟨⟨⟨rfl, h2⟩, h3⟩, h4⟩ := h
      exact gc_PE c h2 h3 h4
    | _ => cases h
  | .bin o k a b, E, X, sc, c, x, h => by
    cases x with
    | BinOp l op r pos =>
      simp only [chkE, Bool.and_eq_true, decide_eq_true_eq] at h
      obtain ⟨⟨rfl, h2⟩, h3⟩ := h
      exact PE.mono (pe_op (op_B o) (soundE a c l h2) (soundE b c r h3)) fun σc H Q ⟨b, h, σ, R, S, s⟩ =>
        sim_two R S s fun b2 h2 H2 x y u w R2 x2 ru rw_ s2 => bin_step R2 x2.dom ru rw_ s2
    | _ => cases h
  | .neg a, E, X, sc, c, x, h => by
    cases x with
    | UnaryOp op y pos =>
      cases op with
      | USub =>
        exact PE.mono (pe_un un_neg (soundE a c y h)) fun σc H Q ⟨b, h, σ, R, S, s⟩ => sim_one R S s fun b2 h2 H2 x u R2 x2 ru s2 => by
          cases x with
          | int i => cases ru; exact ⟨i, rfl, fin_int R2 s2⟩
          | _ => exact s2.elim
      | _ => cases h
    | _ => cases h
  | .cmp o a b, E, X, sc, c, x, h => by
    cases x with
    | Compare l ops rs pos =>
      rcases ops with _ | ⟨op, _ | ⟨_, _⟩⟩ <;> rcases rs with _ | ⟨r, _ | ⟨_, _⟩⟩ <;> first | cases h | skip
      simp only [chkE, Bool.and_eq_true, decide_eq_true_eq] at h
      obtain ⟨⟨rfl, h2⟩, h3⟩ := h
      exact PE.mono (pe_cmpR (op_C c.un o) (soundE a c l h2) (soundE b c r h3) (nomark _ (by cases o <;> decide) (by cases o <;> decide))) fun σc H Q ⟨b, h, σ, R, S, s⟩ =>
        sim_two R S s fun b2 h2 H2 x y u w R2 x2 ru rw_ s2 => cmp_fin R2 ru rw_ s2
    | _ => cases h
  | .cmp2 o o' a b d, E, X, sc, c, x, h => by
    cases x with
    | Compare l ops rs pos =>
      rcases ops with _ | ⟨op, _ | ⟨op', _ | ⟨_, _⟩⟩⟩ <;> rcases rs with _ | ⟨r, _ | ⟨r', _ | ⟨_, _⟩⟩⟩ <;> first | cases h | skip
      simp only [chkE, Bool.and_eq_true, decide_eq_true_eq] at h
      obtain ⟨⟨⟨⟨rfl, rfl⟩, h2⟩, h3⟩, h4⟩ := h
      refine PE.mono (pe_chain (op_C c.un o) (op_C c.un o') (soundE a c l h2) (soundE b c r h3) (soundE d c r' h4) (nomark _ (by cases o' <;> decide) (by cases o' <;> decide))) fun σc H Q ⟨b, h, σ, R, S, s⟩ => ?_
      refine sim_two R S s fun b2 h2 H2 x y u w R2 x2 ru rw_ s2 => ?_
      cases e : cmp2v o x y h2 with
      | none => rw [e] at s2; exact s2.elim
      | some k =>
        rw [e] at s2
        refine cmp_step R2 ru rw_ e ⟨k, rfl, ?_⟩
        cases k with
        | false =>
          rw [if_neg Bool.false_ne_true]
          exact fin_bl R2 s2
        | true =>
          rw [if_pos rfl]
          refine sim_one R2 (S.mono R.nf x2) s2 fun b4 h4 H4 z v R4 x4 rz s4 => ?_
          exact cmp_fin R4 (rw_.mono R2.nf x4) rz s4
    | _ => cases h
  | .and a b, E, X, sc, c, x, h => by
    cases x with
    | BoolOp op vs pos =>
      cases op with
      | Or => cases h
      | And =>
        rcases vs with _ | ⟨x, _ | ⟨y, rest⟩⟩
        · cases h
        · cases h
        · simp only [chkE, Bool.and_eq_true] at h
          have hb : PE X (.BoolOp .And (y :: rest) pos) (tR X.K cls E (ev cl b)) := by
            cases rest with
            | nil => exact pe_one (soundE b c y h.2)
            | cons z zs => exact soundE b c _ h.2
          refine PE.mono (pe_and (soundE a c x h.1) hb) fun σc H Q ⟨b, h, σ, R, S, s⟩ => sim_one R S s fun b2 h2 H2 x u R2 x2 ru s2 => ?_
          cases x with
          | bl k =>
            cases ru
            refine ⟨k, rfl, ?_⟩
            cases k with
            | false => rw [if_neg Bool.false_ne_true]; exact fin_bl R2 s2
            | true => rw [if_pos rfl]; exact ⟨b2, h2, σ, R2, S.mono R.nf x2, s2.mono fun _ _ _ _ _ _ k => k.dom x2.dom⟩
          | _ => exact s2.elim
    | _ => cases h
  | .or a b, E, X, sc, c, x, h => by
    cases x with
    | BoolOp op vs pos =>
      cases op with
      | And => cases h
      | Or =>
        rcases vs with _ | ⟨x, _ | ⟨y, rest⟩⟩
        · cases h
        · cases h
        · simp only [chkE, Bool.and_eq_true] at h
          have hb : PE X (.BoolOp .Or (y :: rest) pos) (tR X.K cls E (ev cl b)) := by
            cases rest with
            | nil => exact pe_one (soundE b c y h.2)
            | cons z zs => exact soundE b c _ h.2
          refine PE.mono (pe_or (soundE a c x h.1) hb) fun σc H Q ⟨b, h, σ, R, S, s⟩ => sim_one R S s fun b2 h2 H2 x u R2 x2 ru s2 => ?_
          cases x with
          | bl k =>
            cases ru
            refine ⟨k, rfl, ?_⟩
            cases k with
            | false => rw [if_neg Bool.false_ne_true]; exact ⟨b2, h2, σ, R2, S.mono R.nf x2, s2.mono fun _ _ _ _ _ _ k => k.dom x2.dom⟩
            | true => rw [if_pos rfl]; exact fin_bl R2 s2
          | _ => exact s2.elim
    | _ => cases h
  | .not a, E, X, sc, c, x, h => by
    cases x with
    | UnaryOp op y pos =>
      cases op with
      | Not =>
        refine PE.mono (pe_not (soundE a c y h)) fun σc H Q ⟨b, h, σ, R, S, s⟩ => sim_one R S s fun b2 h2 H2 x u R2 x2 ru s2 => ?_
        cases x with
        | bl k => cases ru; exact ⟨k, rfl, fin_bl R2 s2⟩
        | _ => exact s2.elim
      | _ => cases h
    | _ => cases h
  | .ite t a b, E, X, sc, c, x, h => by
    cases x with
    | IfExp q y z pos =>
      simp only [chkE, Bool.and_eq_true] at h
      refine PE.mono (pe_ifExp (soundT t c q h.1.1).1 (soundE a c y h.1.2) (soundE b c z h.2)) fun σc H Q ⟨b, h, σ, R, S, s⟩ => sim_T R S s fun b2 h2 H2 k R2 x2 s2 => ?_
      cases k with
      | false => rw [if_neg Bool.false_ne_true]; exact ⟨b2, h2, σ, R2, S.mono R.nf x2, s2.mono fun _ _ _ _ _ _ k => k.dom x2.dom⟩
      | true => rw [if_pos rfl]; exact ⟨b2, h2, σ, R2, S.mono R.nf x2, s2.mono fun _ _ _ _ _ _ k => k.dom x2.dom⟩
    | _ => cases h
  | .tup es, E, X, sc, c, x, h => by
    cases x with
    | Tuple xs k pos =>
      refine PE.mono (pe_tup (soundEs es c xs h)) fun σc H Q ⟨b, h, σ, R, S, s⟩ => ⟨b, h, σ, R, S, s.bind.mono fun b2 h2 H2 vs x2 R2 s2 us rr => ?_⟩
      by_cases hl : vs.length ≤ lim
      · simp only [if_pos hl] at s2
        exact ⟨by rw [← rr.length]; exact lim_le hl, fun p hp => tup_step R2 rr s2 hp⟩
      · simp only [if_neg hl] at s2; exact s2.elim
    | _ => cases h
  | .lst k es, E, X, sc, c, x, h => by
    cases x with
    | List xs pos =>
      refine PE.mono (pe_lst (soundEs es c xs h)) fun σc H Q ⟨b, h, σ, R, S, s⟩ => ⟨b, h, σ, R, S, s.bind.mono fun b2 h2 H2 vs x2 R2 s2 us rr => ?_⟩
      have hl := mkL_len s2
      exact ⟨by rw [← rr.length]; exact lim_le hl, fun p hp => mkL_step R2 rr s2 hp (x2.dom p hp)⟩
    | _ => cases h
  | .idx a i, E, X, sc, c, x, h => by
    cases x with
    | Subscript y z pos =>
      simp only [chkE, Bool.and_eq_true] at h
      exact PE.mono (pe_ix ix_seq (soundE a c y h.1) (soundE i c z h.2) (chkE_slice h.2)) fun σc H Q ⟨b, h, σ, R, S, s⟩ =>
        sim_two R S s fun b2 h2 H2 x y u w R2 x2 ru rw_ s2 => ix_step R2 ru rw_ s2
    | _ => cases h
  | .slc k a lo hi, E, X, sc, c, x, h => by
    cases x with
    | Subscript y z pos =>
      cases z with
      | Slice l u st p2 =>
        cases st with
        | none =>
          simp only [chkE, Bool.and_eq_true] at h
          refine PE.mono (pe_slice sl_list (soundE a c y h.1.1) (soundO lo c l h.1.2) (soundO hi c u h.2)) fun σc H Q ⟨b, h, σ, R, S, s⟩ => sim_one R S s fun b2 h2 H2 x u R2 x2 ru s2 => ?_
          refine ⟨b2, h2, σ, R2, S.mono R.nf x2, s2.bind.mono fun b3 h3 H3 l x3 R3 s3 => ?_⟩
          refine ⟨b3, h3, σ, R3, S.mono R.nf (x2.trans x3), s3.bind.mono fun b4 h4 H4 l2 x4 R4 s4 => ?_⟩
          exact sl_step R4 (fun p hp => x2.dom p (x3.dom p (x4.dom p hp))) (ru.mono R2.nf (x3.trans x4)) s4
        | some _ => cases h
      | _ => cases h
    | _ => cases h
  | .call f es, E, X, sc, c, x, h => by
    cases x with
    | Call fn xs kws pos =>
      cases fn with
      | Name y p =>
        cases kws with
        | cons _ _ => cases h
        | nil =>
          simp only [chkE, Bool.and_eq_true, decide_eq_true_eq] at h
          obtain ⟨⟨⟨h1, h2⟩, h3⟩, h4⟩ := h
          obtain ⟨k, cs⟩ := c.cs
          have hr := cs.room.mono (Nat.le_succ k)
          obtain ⟨fa, prm, hm, hk⟩ := cs.cal f y h1
          obtain ⟨fd, ps, sp, F, hb, hsp, _⟩ := prm.ex
          have gg : Gl X y := by show X.env.scope.names.lookup y = _; rw [c.hsc]; exact gl_of h2
          cases xs with
          | nil =>
            refine PE.mono (pe_call0 F hr gg hm hk hb .nil c.pass (nm1 h3)) fun σc H Q ⟨b, h, σ, R, S, s⟩ => ?_
            cases es with
            | nil => exact hsp b h [] [] H Q R .nil s
            | cons _ _ => cases h4
          | cons z zs =>
            have h5 := h4
            cases es with
            | nil => cases h4
            | cons e es =>
              simp only [chkEs, Bool.and_eq_true] at h4
              refine PE.mono (pe_call F hr gg hm hk hb .nil c.pass (soundEs (.cons e es) c (z :: zs) h5) (nm1 h3) (chkE_star h4.1 _ _) (chkEs_star h4.2 _ _)) fun σc H Q ⟨b, h, σ, R, S, s⟩ => ⟨b, h, σ, R, S, s.bind.mono fun b2 h2 H2 vs x2 R2 s2 us rr => ?_⟩
              show sp (us ++ []) H2 Q E
              rw [List.append_nil]
              exact hsp b2 h2 vs us H2 Q R2 rr (s2.mono fun _ _ _ _ _ _ k => k.dom x2.dom)
      | _ => cases h
    | _ => cases h
  | .blt f k es, E, X, sc, c, x, h => by
    cases x with
    | Call fn xs kws pos =>
      cases fn with
      | Name y p =>
        cases kws with
        | cons _ _ => cases h
        | nil =>
          simp only [chkE, Bool.and_eq_true, decide_eq_true_eq] at h
          obtain ⟨⟨⟨rfl, h2⟩, h3⟩, h4⟩ := h
          have gg : Gl X (bkName f) := by show X.env.scope.names.lookup _ = _; rw [c.hsc]; exact gl_of h2
          cases xs with
          | nil => cases h3
          | cons z zs =>
            have h5 := h4
            cases es with
            | nil => cases h4
            | cons e es =>
              simp only [chkEs, Bool.and_eq_true] at h4
              have hc := call_Bl c.calm f
              have hv := bk_boot f
              have main : PE X (.Call (.Name (bkName f) p) (z :: zs) [] pos) (tCB (rBl X.K f) (tRP X.K cls E (evp cl (.cons e es)))) := by
                cases hbk : bkOf f with
                | fn id =>
                  rw [hbk] at hc hv
                  exact pe_callB hc gg (c.nob f) hv (soundEp (.cons e es) c (z :: zs) h5) (bk_n1 f) (bk_n2 f) (chkE_star h4.1 _ _) (chkEs_star h4.2 _ _)
                | ty id =>
                  rw [hbk] at hc hv
                  exact pe_callTy hc gg (c.nob f) hv (soundEp (.cons e es) c (z :: zs) h5) (bk_n1 f) (bk_n2 f) (chkE_star h4.1 _ _) (chkEs_star h4.2 _ _)
              exact PE.mono main fun σc H Q ⟨b, h, σ, R, S, s⟩ => ⟨b, h, σ, R, S, s.bind.mono fun b2 h2 H2 vs x2 R2 s2 us rr => blt_step R2 x2.dom rr s2⟩
      | _ => cases h
    | _ => cases h
  | .comp k t it d e vs, E, X, sc, c, x, h => by
    cases x with
    | ListComp elt gens scope pos =>
      rcases gens with _ | ⟨⟨tg, iter, ifs, as⟩, _ | ⟨_, _⟩⟩
      · cases h
      · simp only [chkE, Bool.and_eq_true, decide_eq_true_eq] at h
        obtain ⟨⟨⟨⟨⟨⟨has, h1⟩, h2⟩, h3⟩, h4⟩, h5⟩, h6⟩ := h
        subst has
        have e0 := c.hsc
        subst e0
        have main := pe_lc (X := X) (elt := elt) (tg := tg) (iter := iter) (ifs := ifs) (scope := scope) (own := ownOf Z vs) (pos := pos) (wi := tRI X.K cls E (evI cl it)) (g := gR X.K t) (tt := tRT X.K cls E0 (evc cl d)) (te := tR X.K cls E0 (ev cl e)) c.calm (by rw [c.hN]; exact c.nd) (soundI it c iter tg h1) (by rw [c.hN]; exact blkOk_by h5)
          (fun s H C cl' fp => soundG (X := X.blk s H scope (compEnvC scope cl' C X.env) fp) c.hN c.nd c.calm (gok_blk s H scope C cl' fp) t tg h2)
          (fun s H C cl' fp => soundTo d (c.blk s H scope C cl' fp) ifs h3) (fun s H C cl' fp => soundE e (c.blk s H scope C cl' fp) elt h4)
          (by cases it with
            | each e' => exact chkE_set h1 _
            | _ => cases iter <;> first | (intro _; rfl) | cases h1)
        rw [own_snd] at main
        exact PE.mono main fun σc H Q s => comp_tLc h6 s
      · cases h
    | _ => cases h
  | .orL a b, E, X, sc, c, x, h => by
    cases x with
    | BoolOp op vs pos =>
      cases op with
      | And => cases h
      | Or =>
        rcases vs with _ | ⟨x, _ | ⟨y, rest⟩⟩
        · cases h
        · cases h
        · simp only [chkE, Bool.and_eq_true] at h
          have hb : PE X (.BoolOp .Or (y :: rest) pos) (tR X.K cls E (ev cl b)) := by
            cases rest with
            | nil => exact pe_one (soundE b c y h.2)
            | cons z zs => exact soundE b c _ h.2
          refine PE.mono (pe_orA (soundE a c x h.1) hb) fun σc H Q ⟨b, h, σ, R, S, s⟩ => sim_one R S s fun b2 h2 H2 x u R2 x2 ru s2 => ?_
          cases e : truth h2 x with
          | none => rw [e] at s2; exact s2.elim
          | some k =>
            rw [e] at s2
            refine ⟨k, truth_step R2 ru e, ?_⟩
            cases k with
            | false => rw [if_neg Bool.false_ne_true]; exact ⟨b2, h2, σ, R2, S.mono R.nf x2, Sim.mono s2 fun _ _ _ _ _ _ k => k.dom x2.dom⟩
            | true =>
              rw [if_pos rfl]
              cases kp : keepable x with
              | false => simp only [kp, ofOpt, Res.bind] at s2; exact s2.elim
              | true =>
                simp only [kp, ofOpt, Res.bind, if_true] at s2
                exact fin_keep R2 s2 ru fun xs ez => by subst ez; cases kp
    | _ => cases h
  | .slcT a lo hi, E, X, sc, c, x, h => by
    cases x with
    | Subscript y z pos =>
      cases z with
      | Slice l u st p2 =>
        cases st with
        | none =>
          simp only [chkE, Bool.and_eq_true] at h
          refine PE.mono (pe_slice sl_tup (soundE a c y h.1.1) (soundO lo c l h.1.2) (soundO hi c u h.2)) fun σc H Q ⟨b, h, σ, R, S, s⟩ => sim_one R S s fun b2 h2 H2 x u R2 x2 ru s2 => ?_
          refine ⟨b2, h2, σ, R2, S.mono R.nf x2, s2.bind.mono fun b3 h3 H3 l x3 R3 s3 => ?_⟩
          refine ⟨b3, h3, σ, R3, S.mono R.nf (x2.trans x3), s3.bind.mono fun b4 h4 H4 l2 x4 R4 s4 => ?_⟩
          cases x with
          | tup xs =>
            simp only at s4
            split at s4
            · exact s4.elim
            · rename_i hc
              obtain ⟨a, ys, rfl, hq, rr⟩ := tup_sq (ru.mono R2.nf (x3.trans x4))
              refine ⟨a, ys, rfl, hq, by rw [← rr.length]; exact hc, fun p hp => ?_⟩
              unfold cutV
              rw [← rr.length]
              exact tup_step R4 ((rr.drop _).take _) s4 hp
          | _ => exact s4.elim
        | some _ => cases h
      | _ => cases h
    | _ => cases h
  | .rev k a m, E, X, sc, c, x, h => by
    cases x with
    | Subscript y z pos =>
      cases z with
      | Slice l u st p2 =>
        cases l with
        | some _ => cases h
        | none =>
          cases u with
          | some _ => cases h
          | none =>
            cases st with
            | none => cases h
            | some z =>
              simp only [chkE, Bool.and_eq_true] at h
              exact PE.mono (pe_rev (soundE a c y h.1) (soundE m c z h.2)) fun σc H Q ⟨b, h, σ, R, S, s⟩ =>
                sim_two R S s fun b2 h2 H2 x y u w R2 x2 ru rw_ s2 => rev_step R2 (fun p hp => x2.dom p hp) ru rw_ s2
      | _ => cases h
    | _ => cases h
  | .isi a t, E, X, sc, c, x, h => by
    cases x with
    | Call fn xs kws pos =>
      cases fn with
      | Name y p =>
        rcases xs with _ | ⟨x, _ | ⟨z, _ | ⟨_, _⟩⟩⟩ <;> rcases kws with _ | ⟨_, _⟩ <;> first | (cases h; done) | skip
        · cases z with
          | Name cn pc =>
            simp only [chkE, Bool.and_eq_true, decide_eq_true_eq] at h
            obtain ⟨⟨⟨⟨rfl, h2⟩, rfl⟩, h4⟩, h5⟩ := h
            have gg : Gl X "isinstance" := by show X.env.scope.names.lookup _ = _; rw [c.hsc]; exact gl_of h2
            have gt : Gl X (Str.ofString (btName t)) := by show X.env.scope.names.lookup _ = _; rw [c.hsc]; exact gl_of h4
            have pt : PE X (.Name (Str.ofString (btName t)) pc) (tC (.ty (btName t))) := pe_bltn gt (c.nobt t) (by cases t <;> decide +kernel) rfl (by cases t <;> decide +kernel) (by cases t <;> decide +kernel)
            refine PE.mono (pe_callB (call_isi t) gg c.noi (by decide +kernel) (pa_cons (soundE a c x h5) (pa_cons pt pa_nil rfl) (chkE_star h5 _ _)) (by decide +kernel) (by decide +kernel) (chkE_star h5 _ _) rfl) fun σc H Q ⟨b, h, σ, R, S, s⟩ => sim_one R S s fun b2 h2 H2 x u R2 x2 ru s2 => ?_
            cases e : tyA h2 x with
            | none => rw [e] at s2; exact s2.elim
            | some n =>
              rw [e] at s2
              exact ⟨u, n, rfl, tyA_mem e, tyA_step R2 ru e, fin_bl R2 s2⟩
          | _ => cases h
        · cases z <;> cases h
        · cases z <;> cases h
        · cases z <;> cases h
      | _ => cases h
    | _ => cases h
  | .isiT a ts, E, X, sc, c, x, h => by
    cases x with
    | Call fn xs kws pos =>
      cases fn with
      | Name y p =>
        rcases xs with _ | ⟨x, _ | ⟨z, _ | ⟨_, _⟩⟩⟩ <;> rcases kws with _ | ⟨_, _⟩ <;> first | (cases h; done) | skip
        · cases z with
          | Tuple ys k1 pc =>
            simp only [chkE, Bool.and_eq_true, decide_eq_true_eq] at h
            obtain ⟨⟨⟨⟨rfl, h2⟩, h3⟩, h4⟩, h5⟩ := h
            have gg : Gl X "isinstance" := by show X.env.scope.names.lookup _ = _; rw [c.hsc]; exact gl_of h2
            have pt : PA X ys (fun _ H Q => Q (tyVs ts) H) := by
              clear h5 h3
              induction ts generalizing ys with
              | nil =>
                cases ys with
                | nil => exact pa_nil
                | cons _ _ => cases h4
              | cons t ts ih =>
                cases ys with
                | nil => cases h4
                | cons y ys =>
                  cases y with
                  | Name cn pn =>
                    simp only [chkTys, Bool.and_eq_true, decide_eq_true_eq] at h4
                    obtain ⟨⟨rfl, h6⟩, h7⟩ := h4
                    have gt : Gl X (Str.ofString (btName t)) := by show X.env.scope.names.lookup _ = _; rw [c.hsc]; exact gl_of h6
                    have pn : PE X (.Name (Str.ofString (btName t)) pn) (tC (.ty (btName t))) := pe_bltn gt (c.nobt t) (by cases t <;> decide +kernel) rfl (by cases t <;> decide +kernel) (by cases t <;> decide +kernel)
                    exact pa_cons pn (ih ys h7) rfl
                  | _ => cases h4
            refine PE.mono (pe_callB (call_isiT ts) gg c.noi (by decide +kernel) (pa_cons (soundE a c x h5) (pa_cons (pe_tup pt) pa_nil rfl) (chkE_star h5 _ _)) (by decide +kernel) (by decide +kernel) (chkE_star h5 _ _) rfl) fun σc H Q ⟨b, h, σ, R, S, s⟩ => sim_one R S s fun b2 h2 H2 x u R2 x2 ru s2 => ?_
            cases e : tyA h2 x with
            | none => rw [e] at s2; exact s2.elim
            | some n =>
              rw [e] at s2
              refine ⟨?_, fun q hq => ?_⟩
              · unfold tyVs
                rw [List.length_map, sizeLine_eq]
                omega
              · obtain ⟨x3, R3⟩ := R2.fz hq (.tup (tyVs ts))
                exact ⟨u, n, q, rfl, tyA_mem e, tyA_step R3 (ru.mono R2.nf x3) e, upd_same, fin_bl (E := E) R3 (fun b' H' x R => s2 b' H' (x3.trans x) R)⟩
          | _ => cases h
        · cases z <;> cases h
        · cases z <;> cases h
        · cases z <;> cases h
      | _ => cases h
    | _ => cases h
  | .app o a, E, X, sc, c, x, h => by
    cases x with
    | Call fn xs kws cp =>
      cases fn with
      | Attribute y m ap =>
        rcases xs with _ | ⟨v, _ | ⟨_, _⟩⟩ <;> rcases kws with _ | ⟨_, _⟩ <;> first | (cases h; done) | skip
        simp only [chkE, Bool.and_eq_true, decide_eq_true_eq] at h
        obtain ⟨⟨⟨⟨rfl, h2⟩, h3⟩, h4⟩, h5⟩ := h
        refine PE.mono (pe_bm PySem.F.plainAttrs_list PySem.F.slot_list_append PySem.F.type_list_append mt_append (soundE o c y h4) (pa_cons (soundE a c v h5) pa_nil (chkE_star h5 _ _)) (plainO_of h3) (by rw [chkE_star h5]; rfl) h2 (chkE_star h5 _ _) rfl) fun σc H Q ⟨b, h, σ, R, S, s⟩ => ?_
        refine sim_one R S s fun b2 h2 H2 x u R2 x2 ru s2 => ?_
        cases e : rdL h2 x with
        | none => rw [e] at s2; exact s2.elim
        | some xs =>
          rw [e] at s2
          obtain ⟨p, ys, rfl, hq, rr⟩ := rdL_sq R2 ru e
          refine ⟨.inl ⟨rfl, ys, hq⟩, sim_one R2 (S.mono R.nf x2) s2 fun b3 h3 H3 v w R3 x3 rv s3 => ?_⟩
          cases e2 : appH h3 x v with
          | none => rw [e2] at s3; exact s3.elim
          | some h4 =>
            rw [e2] at s3
            obtain ⟨p', zs, ep, eH, hl, x4, R4⟩ := appH_step R3 (ru.mono R2.nf x3) rv e2
            exact ⟨p', zs, w, ep, rfl, eH, hl, s3 _ _ x4 R4 _ (RelT.of .non) fun _ _ ez => by cases ez⟩
      | _ => cases h
    | _ => cases h
  | .fld a f cs, E, X, sc, c, x, h => by
    cases x with
    | Attribute y g p =>
      simp only [chkE, Bool.and_eq_true, decide_eq_true_eq] at h
      obtain ⟨⟨⟨rfl, h2⟩, h3⟩, h4⟩ := h
      refine PE.mono (pe_fld (soundE a c y h3) (plainO_of h2)) fun σc H Q ⟨b, h, σ, R, S, s⟩ => sim_one R S s fun b2 h2 H2 x u R2 x2 ru s2 => ?_
      cases e : fldV h2 x f cs with
      | none => rw [e] at s2; exact s2.elim
      | some v =>
        rw [e] at s2
        obtain ⟨p, k, dx, gs, w, ⟨hk, _⟩, rfl, eH, el, rv⟩ := fld_step R2 ru e
        have q := List.all_eq_true.mp h4 k (by simpa using hk)
        cases q2 : Z.ci[k]? with
        | none => rw [q2] at q; cases q
        | some i =>
          rw [q2] at q
          have ok := c.clsok k i q2
          exact ⟨p, _, dx, gs, w, rfl, eH, ok.cl, ok.at' f (by simpa using q), el, fin_keep R2 s2 (RelT.of rv) fun xs ez => by subst ez; cases rv⟩
    | _ => cases h
  | .make k fi es, E, X, sc, c, x, h => by
    cases x with
    | Call fn xs kws pos =>
      cases fn with
      | Name y p =>
        cases kws with
        | cons _ _ => cases h
        | nil =>
          simp only [chkE, Bool.and_eq_true] at h
          obtain ⟨⟨⟨h1, h2⟩, h3⟩, h4⟩ := h
          cases q : Z.ci[k]? with
          | none => rw [q] at h1; cases h1
          | some i =>
            rw [q] at h1
            simp only [Bool.and_eq_true, decide_eq_true_eq] at h1
            obtain ⟨rfl, hi⟩ := h1
            obtain ⟨kk, cs⟩ := c.cs
            obtain ⟨fa, prm, mk⟩ := cs.inits k i fi q hi
            obtain ⟨fd, ps, sp, F, hb, hsp, _⟩ := prm.ex
            have ok := c.clsok k i q
            have gg : Gl X i.name := by show X.env.scope.names.lookup _ = _; rw [c.hsc]; exact gl_of h2
            have step : ∀ (b2 : Ab) (h2 : AH) (H H2 : Hp) (vs : List AV) (us : List V) (Q : VK), Rep X.K cls b2 h2 H2 → RelAs X.K b2 H2 vs us → (∀ p, H2 p = none → H p = none) → Sim X.K cls b2 H2 ((cl fi (.ref h2.length :: vs) (h2 ++ [.ins k []])).bind fun v h3 => match v with
                | .non => .ok (.ref h2.length) h3
                | _ => .stuck) (kW X.K H Q) E → ∀ x dx, H2 x = none → H2 dx = none → dx ≠ x → sp (.ref x :: (us ++ [])) (upd (upd H2 dx (.own x)) x (.ins (cls k) dx [])) (fun v H3 => v = .non ∧ Q (.ref x) H3) E := by
              intro b2 h2 H H2 vs us Q R2 rr dm s2 x dx hx hd ne
              obtain ⟨x3, R3⟩ := R2.mk' (c := k) hx hd ne
              rw [List.append_nil]
              have rx : RelA X.K ⟨b2.ρ ++ [x], b2.F⟩ (upd (upd H2 dx (.own x)) x (.ins (cls k) dx [])) (.ref h2.length) (.ref x) := .ref (by
                show (b2.ρ ++ [x])[h2.length]? = some x
                rw [← R2.len]; simp)
              refine hsp _ _ (.ref h2.length :: vs) _ _ _ R3 (.cons rx (rr.mono R2.nf x3)) ((Sim.bind (Sim.later x3 s2)).mono fun b4 h4 H4 v x4 R4 s4 u ru _ => ?_)
              cases v with
              | non =>
                cases ru
                exact ⟨rfl, s4.here R4 _ (RelT.of (rx.mono R3.nf x4)) fun _ _ ez => by cases ez⟩
              | _ => exact s4.elim
            cases xs with
            | nil =>
              cases es with
              | cons _ _ => cases h4
              | nil =>
                refine PE.mono (pe_make0 mk F cs.room gg ok.nm hb .nil c.pass (nm1 h3)) fun σc H Q ⟨b, h, σ, R, S, s⟩ => ?_
                exact fun x dx hx hd ne => step b h H H [] [] Q R .nil (fun _ z => z) s x dx hx hd ne
            | cons z zs =>
              have h5 := h4
              cases es with
              | nil => cases h4
              | cons e es =>
                simp only [chkEs, Bool.and_eq_true] at h4
                refine PE.mono (pe_make mk F cs.room gg ok.nm hb .nil c.pass (soundEs (.cons e es) c (z :: zs) h5) (nm1 h3) (chkE_star h4.1 _ _) (chkEs_star h4.2 _ _)) fun σc H Q ⟨b, h, σ, R, S, s⟩ => ⟨b, h, σ, R, S, s.bind.mono fun b2 h2 H2 vs x2 R2 s2 us rr => ?_⟩
                exact fun x dx hx hd ne => step b2 h2 H H2 vs us Q R2 rr x2.dom s2 x dx hx hd ne
      | _ => cases h
    | _ => cases h
  | .meth o m alts es, E, X, sc, c, x, h => by
    cases x with
    | Call fn xs kws cp =>
      cases fn with
      | Attribute y g ap =>
        cases kws with
        | cons _ _ => cases h
        | nil =>
          simp only [chkE, Bool.and_eq_true, decide_eq_true_eq] at h
          obtain ⟨⟨⟨⟨⟨⟨rfl, h2⟩, h3⟩, h4⟩, h5⟩, h6⟩, h7⟩ := h
          intro pins st σc H Q I q
          obtain ⟨b, ah, σ, R, S, s⟩ := q
          have s : Sim X.K cls b H ((ev cl o σ ah).nox.bind fun x h1 => (ofOpt (methD h1 x m alts) h1).bind fun f _ => (evs cl es σ h1).bind fun xs h2 => cl f (x :: xs) h2) (kW X.K H Q) E := s
          obtain ⟨kk, cs⟩ := c.cs
          have hr := cs.room.mono (Nat.le_succ kk)
          -- the run tells which class it is
          cases qo : ev cl o σ ah with
          | stuck => rw [qo] at s; exact s.elim
          | exc c' h' => rw [qo] at s; exact s.elim
          | ok x h1 =>
            rw [qo] at s
            have s : Sim X.K cls b H ((ofOpt (methD h1 x m alts) h1).bind fun f _ => (evs cl es σ h1).bind fun xs h2 => cl f (x :: xs) h2) (kW X.K H Q) E := s
            cases qm : methD h1 x m alts with
            | none => rw [qm] at s; exact s.elim
            | some f =>
              rw [qm] at s
              have s : Sim X.K cls b H ((evs cl es σ h1).bind fun xs h2 => cl f (x :: xs) h2) (kW X.K H Q) E := s
              obtain ⟨n, k, fs, rfl, en, el, ea⟩ := methD_inv qm
              have q7 := List.all_eq_true.mp h7 (k, f) (lookup_memN ea)
              cases q2 : Z.ci[k]? with
              | none => rw [q2] at q7; cases q7
              | some i =>
                rw [q2] at q7
                have ok := c.clsok k i q2
                obtain ⟨fa, prm, mt⟩ := cs.mets k i m f q2 (by simpa using q7)
                obtain ⟨fd, ps, sp, F, hb, hsp, _⟩ := prm.ex
                have tail : ∀ b2 H2 u, Ext b H b2 H2 → Rep X.K cls b2 h1 H2 → RelT X.K b2 H2 (.ref n) u → ∃ a dx gs, u = .ref a ∧ H2 a = some (.ins (cls k) dx gs) ∧ gs.lookup m = none ∧ tRA X.K cls E (evs cl es) σc H2 fun vs H3 => sp (u :: (vs ++ [])) H3 Q E := by
                  intro b2 H2 u x2 R2 ru
                  obtain ⟨a, rfl, hn⟩ : ∃ a, u = .ref a ∧ b2.ρ[n]? = some a := by cases ru with | ref hn => exact ⟨_, rfl, hn⟩
                  obtain ⟨dx, gs, eH, rg⟩ := ins_at R2 en hn
                  have eg : gs.lookup m = none := by
                    rcases lookupP (f := m) rg with ⟨_, z⟩ | ⟨v', w, z1, _, _⟩
                    · exact z
                    · rw [el] at z1; cases z1
                  refine ⟨a, dx, gs, rfl, eH, eg, b2, h1, σ, R2, S.mono R.nf x2, (Sim.bind (Sim.later x2 s)).mono fun b3 h3 H3 vs x3 R3 s3 us rr => ?_⟩
                  show sp (V.ref a :: (us ++ [])) H3 Q E
                  rw [List.append_nil]
                  exact hsp b3 h3 (.ref n :: vs) _ H3 Q R3 (.cons ((ru.keep rfl).mono R2.nf x3) rr) (s3.mono fun _ _ _ _ _ _ kk => kk.dom fun p e => x2.dom p (x3.dom p e))
                have read : tR X.K cls E (ev cl o) σc H fun u H2 => ∃ a dx gs, u = .ref a ∧ H2 a = some (.ins (cls k) dx gs) ∧ gs.lookup m = none ∧ tRA X.K cls E (evs cl es) σc H2 fun vs H3 => sp (u :: (vs ++ [])) H3 Q E :=
                  ⟨b, ah, σ, R, S, by rw [qo]; exact fun b2 H2 x2 R2 u ru _ => tail b2 H2 u x2 R2 ru⟩
                cases xs with
                | nil =>
                  cases es with
                  | cons _ _ => cases h6
                  | nil =>
                    refine pe_meth0 (soundE o c y h5) ok.cl mt F hr hb .nil c.pass (meth_eval h2 rfl h3) pins st σc H Q I ?_
                    refine ⟨b, ah, σ, R, S, ?_⟩
                    rw [qo]
                    intro b2 H2 x2 R2 u ru _
                    obtain ⟨a, dx, gs, e1, e2, e3, e4⟩ := tail b2 H2 u x2 R2 ru
                    obtain ⟨b3, h3, σ3, R3, S3, s3⟩ := e4
                    exact ⟨a, dx, gs, e1, e2, e3, s3.here R3 [] .nil⟩
                | cons z zs =>
                  have h6' := h6
                  cases es with
                  | nil => cases h6
                  | cons e es =>
                    simp only [chkEs, Bool.and_eq_true] at h6
                    exact pe_meth (soundE o c y h5) ok.cl mt F hr hb .nil c.pass (soundEs (.cons e es) c (z :: zs) h6') (chkE_star h6.1 _ _) (chkEs_star h6.2 _ _) (meth_eval h2 (form_ok h6' h4) h3) pins st σc H Q I read
      | _ => cases h
    | _ => cases h
  | .isc a k yes no, E, X, sc, c, x, h => by
    cases x with
    | Call fn xs kws pos =>
      cases fn with
      | Name y p =>
        rcases xs with _ | ⟨x, _ | ⟨z, _ | ⟨_, _⟩⟩⟩ <;> rcases kws with _ | ⟨_, _⟩ <;> first | (cases h; done) | skip
        · cases z with
          | Name cn pc =>
            simp only [chkE, Bool.and_eq_true, decide_eq_true_eq] at h
            obtain ⟨⟨⟨⟨⟨⟨⟨rfl, h2⟩, h3⟩, h4⟩, h5⟩, h6⟩, h7⟩, h8⟩ := h
            cases q : Z.ci[k]? with
            | none => rw [q] at h6; cases h6
            | some i =>
              rw [q] at h6
              have h6 : i.name = cn := by simpa using h6
              subst h6
              have ok := c.clsok k i q
              have gg : Gl X "isinstance" := by show X.env.scope.names.lookup _ = _; rw [c.hsc]; exact gl_of h2
              have gt : Gl X i.name := by show X.env.scope.names.lookup _ = _; rw [c.hsc]; exact gl_of h3
              have pt : PE X (.Name i.name pc) (tC (.ref (cls k))) := pe_glob gt ok.nm rfl (nm1 h4)
              refine PE.mono (pe_callB (call_isc (cls k)) gg c.noi (by decide +kernel) (pa_cons (soundE a c x h5) (pa_cons pt pa_nil rfl) (chkE_star h5 _ _)) (by decide +kernel) (by decide +kernel) (chkE_star h5 _ _) rfl) fun σc H Q ⟨b, h, σ, R, S, s⟩ => sim_one R S s fun b2 h2 H2 x u R2 x2 ru s2 => ?_
              cases e : iscV h2 x yes no with
              | none => rw [e] at s2; exact s2.elim
              | some d =>
                rw [e] at s2
                have fin := fin_bl R2 s2
                unfold iscV at e
                cases et : tyA h2 x with
                | some n =>
                  rw [et] at e
                  cases e
                  exact ⟨u, _, false, rfl, tyA_step R2 ru et, ok.kd n (tyA_mem et), fin⟩
                | none =>
                  rw [et] at e
                  cases x with
                  | ref n =>
                    simp only at e
                    cases en : h2[n]? with
                    | none => rw [en] at e; cases e
                    | some ob =>
                      rw [en] at e
                      cases ob with
                      | ins m fs =>
                        simp only at e
                        obtain ⟨p', rfl, hn⟩ : ∃ a, u = .ref a ∧ b2.ρ[n]? = some a := by cases ru with | ref hn => exact ⟨_, rfl, hn⟩
                        obtain ⟨dx, gs, eH, _⟩ := ins_at R2 en hn
                        have hm : ∃ j, Z.ci[m]? = some j ∧ j.mro.contains k = d := by
                          split at e
                          · rename_i hy
                            cases e
                            have q7 := List.all_eq_true.mp h7 m (by simpa using hy)
                            cases q2 : Z.ci[m]? with
                            | none => rw [q2] at q7; cases q7
                            | some j => rw [q2] at q7; exact ⟨j, rfl, q7⟩
                          · split at e
                            · rename_i hy
                              cases e
                              have q7 := List.all_eq_true.mp h8 m (by simpa using hy)
                              cases q2 : Z.ci[m]? with
                              | none => rw [q2] at q7; cases q7
                              | some j => rw [q2] at q7; exact ⟨j, rfl, by simpa using q7⟩
                            · cases e
                        obtain ⟨j, ej, rfl⟩ := hm
                        have okm := c.clsok m j ej
                        exact ⟨.ref p', _, _, rfl, .ins eH okm.cl okm.ha okm.hn okm.htk okm.hm, c.kit m j k i ej q, fin⟩
                      | _ => cases e
                  | _ => cases e
          | _ => cases h
        · cases z <;> cases h
        · cases z <;> cases h
        · cases z <;> cases h
      | _ => cases h
    | _ => cases h
  | .strD a, E, X, sc, c, x, h => by
    cases x with
    | Call fn xs kws pos =>
      cases fn with
      | Name y p =>
        rcases xs with _ | ⟨x, _ | ⟨_, _⟩⟩ <;> rcases kws with _ | ⟨_, _⟩ <;> first | (cases h; done) | skip
        simp only [chkE, Bool.and_eq_true, decide_eq_true_eq] at h
        obtain ⟨⟨rfl, h2⟩, h5⟩ := h
        have gg : Gl X (Str.ofString (btName .str)) := by show X.env.scope.names.lookup _ = _; rw [c.hsc]; exact gl_of h2
        refine PE.mono (pe_callTy (call_strD c.gd c.un) gg (c.nobt .str) (by decide +kernel) (pa_cons (soundE a c x h5) pa_nil (chkE_star h5 _ _)) (by decide +kernel) (by decide +kernel) (chkE_star h5 _ _) rfl) fun σc H Q ⟨b, h, σ, R, S, s⟩ => sim_one R S s fun b2 h2 H2 x u R2 x2 ru s2 => ?_
        cases e : strV h2 x with
        | none => rw [e] at s2; exact s2.elim
        | some t =>
          rw [e] at s2
          exact strV_step R2 ru e (fin_keep R2 s2 (RelT.of (.str t)) fun _ ez => by cases ez)
      | _ => cases h
    | _ => cases h
  | .dnew tk, E, X, sc, c, x, h => by
    cases x with
    | Dict ks vs pos =>
      rcases ks with _ | ⟨_, _⟩ <;> rcases vs with _ | ⟨_, _⟩ <;> first | (cases h; done) | skip
      cases tk with
      | false =>
        refine PE.mono pe_dnewK fun σc H Q ⟨b, h, σ, R, S, s⟩ p hp => ?_
        obtain ⟨x', R'⟩ := R.hp (o := .dk []) (ho := .dK []) hp fun b' H' _ => ⟨[], rfl, .nil⟩
        refine s _ _ x' R' _ (RelA.ref ?_) fun _ _ e => by cases e
        show (b.ρ ++ [p])[h.length]? = some p
        rw [← R.len]; simp
      | true =>
        refine PE.mono pe_dnewT fun σc H Q ⟨b, h, σ, R, S, s⟩ p hp => ?_
        obtain ⟨x', R'⟩ := R.hp (o := .dt []) (ho := .dT []) hp fun b' H' _ => ⟨[], rfl, .nil⟩
        refine s _ _ x' R' _ (RelA.ref ?_) fun _ _ e => by cases e
        show (b.ρ ++ [p])[h.length]? = some p
        rw [← R.len]; simp
    | _ => cases h
  | .din neg k d, E, X, sc, c, x, h => by
    cases x with
    | Compare l ops rs pos =>
      rcases ops with _ | ⟨op, _ | ⟨_, _⟩⟩ <;> rcases rs with _ | ⟨r, _ | ⟨_, _⟩⟩ <;> first | cases h | skip
      simp only [chkE, Bool.and_eq_true, decide_eq_true_eq] at h
      obtain ⟨⟨rfl, h2⟩, h3⟩ := h
      exact PE.mono (pe_cmp (din_PC c.un (soundE k c l h2) (soundE d c r h3)) (chkE_mark h3 _)) fun σc H Q ⟨b, h, σ, R, S, s⟩ => din_run R S s fun b2 h2 H2 o R2 s2 => fin_bl R2 s2
    | _ => cases h
  | .dget d k, E, X, sc, c, x, h => by
    cases x with
    | Subscript y z pos =>
      simp only [chkE, Bool.and_eq_true] at h
      refine PE.mono (pe_dget (Nat.lt_of_le_of_lt (Nat.add_le_add_left (by decide : 1 ≤ 64) _) c.un) (soundE d c y h.1) (soundE k c z h.2) (chkE_slice h.2)) fun σc H Q ⟨b, h, σ, R, S, s⟩ =>
        sim_two R S s fun b2 h2 H2 x y u w R2 x2 ru rw_ s2 => ?_
      cases e : dLook h2 x y with
      | none => rw [e] at s2; exact s2.elim
      | some o =>
        rw [e] at s2
        obtain ⟨a, o', eu, g, r⟩ := dLook_step R2 ru rw_ e
        rcases r with ⟨rfl, _⟩ | ⟨v, z, rfl, rfl, rv⟩
        · exact s2.elim
        · exact ⟨a, z, eu, g, fin_keep R2 s2 (RelT.of rv) fun xs ez => by subst ez; cases rv⟩
    | _ => cases h
  | .inS neg a b, E, X, sc, c, x, h => by
    cases x with
    | Compare l ops rs pos =>
      rcases ops with _ | ⟨op, _ | ⟨_, _⟩⟩ <;> rcases rs with _ | ⟨r, _ | ⟨_, _⟩⟩ <;> first | cases h | skip
      simp only [chkE, Bool.and_eq_true, decide_eq_true_eq] at h
      obtain ⟨⟨rfl, h2⟩, h3⟩ := h
      refine PE.mono (pe_cmpR (in_op c.un neg) (soundE a c l h2) (soundE b c r h3) (chkE_mark h3 _)) fun σc H Q ⟨b, h, σ, R, S, s⟩ =>
        sim_two R S s fun b2 h2 H2 x y u w R2 x2 ru rw_ s2 => ?_
      cases e : inQ h2 x y with
      | none => rw [e] at s2; exact s2.elim
      | some k => rw [e] at s2; exact inQ_step R2 ru rw_ e (fin_bl R2 s2)
    | _ => cases h
theorem soundT : ∀ (t : R.T) {E : XK} {X : Cx} {sc : Scope} (c : Cok Z cls cl CX E X sc) (x : Expr), chkT Z sc t x = true → PT X x (tRT X.K cls E (evT cl t)) ∧ ∀ op vs p, x = .BoolOp op vs p → PW X x (tRT X.K cls E (evT cl t))
  | .val e, E, X, sc, c, x, h => by
    simp only [chkT, Bool.and_eq_true] at h
    obtain ⟨hp, h⟩ := h
    have nb : ∀ op vs p, x = .BoolOp op vs p → PW X x (tRT X.K cls E (evT cl (.val e))) := fun op vs p e => by subst e; cases hp
    refine ⟨?_, nb⟩
    by_cases hc : ∃ l ops rs p, x = .Compare l ops rs p
    · obtain ⟨l, ops, rs, pos, rfl⟩ := hc
      cases e with
      | cmp o a b =>
        rcases ops with _ | ⟨op, _ | ⟨_, _⟩⟩ <;> rcases rs with _ | ⟨r, _ | ⟨_, _⟩⟩ <;> first | cases h | skip
        simp only [chkE, Bool.and_eq_true, decide_eq_true_eq] at h
        obtain ⟨⟨rfl, h2⟩, h3⟩ := h
        refine PT.mono (pt_cmpR (op_C c.un o) (soundE a c l h2) (soundE b c r h3) (nomark _ (by cases o <;> decide) (by cases o <;> decide))) fun σc H Q ⟨b, h, σ, R, S, s⟩ => ?_
        have s := Sim.bind (show Sim X.K cls b H ((ev cl (.cmp o _ _) σ h).bind _) _ E from s)
        refine sim_two R S s fun b2 h2 H2 x y u w R2 x2 ru rw_ s2 => ?_
        cases e : cmp2v o x y h2 with
        | none => rw [e] at s2; exact s2.elim
        | some k =>
          rw [e] at s2
          exact cmp_step R2 ru rw_ e ⟨k, rfl, (s2.here R2).here R2⟩
      | cmp2 o o' a b d =>
        rcases ops with _ | ⟨op, _ | ⟨op', _ | ⟨_, _⟩⟩⟩ <;> rcases rs with _ | ⟨r, _ | ⟨r', _ | ⟨_, _⟩⟩⟩ <;> first | cases h | skip
        simp only [chkE, Bool.and_eq_true, decide_eq_true_eq] at h
        obtain ⟨⟨⟨⟨rfl, rfl⟩, h2⟩, h3⟩, h4⟩ := h
        refine PT.mono (pt_chain (op_C c.un o) (op_C c.un o') (soundE a c l h2) (soundE b c r h3) (soundE d c r' h4) (nomark _ (by cases o' <;> decide) (by cases o' <;> decide))) fun σc H Q ⟨b, h, σ, R, S, s⟩ => ?_
        have s := Sim.bind (show Sim X.K cls b H ((ev cl (.cmp2 o o' _ _ _) σ h).bind _) _ E from s)
        refine sim_two R S s fun b2 h2 H2 x y u w R2 x2 ru rw_ s2 => ?_
        cases e : cmp2v o x y h2 with
        | none => rw [e] at s2; exact s2.elim
        | some k =>
          rw [e] at s2
          refine cmp_step R2 ru rw_ e ⟨k, rfl, ?_⟩
          cases k with
          | false =>
            rw [if_neg Bool.false_ne_true]
            exact ⟨false, rfl, (s2.here R2).here R2⟩
          | true =>
            rw [if_pos rfl]
            refine sim_one R2 (S.mono R.nf x2) s2 fun b4 h4 H4 z v R4 x4 rz s4 => ?_
            cases e : cmp2v o' y z h4 with
            | none => rw [e] at s4; exact s4.elim
            | some k' =>
              rw [e] at s4
              exact cmp_step R4 (rw_.mono R2.nf x4) rz e ⟨k', rfl, (s4.here R4).here R4⟩
      | din neg k d =>
        rcases ops with _ | ⟨op, _ | ⟨_, _⟩⟩ <;> rcases rs with _ | ⟨r, _ | ⟨_, _⟩⟩ <;> first | cases h | skip
        simp only [chkE, Bool.and_eq_true, decide_eq_true_eq] at h
        obtain ⟨⟨rfl, h2⟩, h3⟩ := h
        refine PT.mono (pt_cmp (din_PC c.un (soundE k c l h2) (soundE d c r h3)) (chkE_mark h3 _)) fun σc H Q ⟨b, h, σ, R, S, s⟩ => ?_
        have s := Sim.bind (show Sim X.K cls b H ((ev cl (.din neg k d) σ h).bind _) _ E from s)
        exact din_run R S s fun b2 h2 H2 o R2 s2 => ⟨_, rfl, (s2.here R2).here R2⟩
      | inS neg a b =>
        rcases ops with _ | ⟨op, _ | ⟨_, _⟩⟩ <;> rcases rs with _ | ⟨r, _ | ⟨_, _⟩⟩ <;> first | cases h | skip
        simp only [chkE, Bool.and_eq_true, decide_eq_true_eq] at h
        obtain ⟨⟨rfl, h2⟩, h3⟩ := h
        refine PT.mono (pt_cmpR (in_op c.un neg) (soundE a c l h2) (soundE b c r h3) (chkE_mark h3 _)) fun σc H Q ⟨b, h, σ, R, S, s⟩ => ?_
        have s := Sim.bind (show Sim X.K cls b H ((ev cl (.inS neg a _) σ h).bind _) _ E from s)
        refine sim_two R S s fun b2 h2 H2 x y u w R2 x2 ru rw_ s2 => ?_
        cases e : inQ h2 x y with
        | none => rw [e] at s2; exact s2.elim
        | some k => rw [e] at s2; exact inQ_step R2 ru rw_ e ⟨_, rfl, (s2.here R2).here R2⟩
      | _ => cases h
    · exact PT.mono (pt_truth (soundE e c x h) (plain_test h hp (fun l ops rs p e => hc ⟨l, ops, rs, p, e⟩) X.env)) fun σc H Q s => val_test s
  | .and a b, E, X, sc, c, x, h => by
    cases x with
    | BoolOp op vs pos =>
      cases op with
      | Or => cases h
      | And =>
        rcases vs with _ | ⟨x, _ | ⟨y, rest⟩⟩
        · cases h
        · cases h
        · simp only [chkT, Bool.and_eq_true] at h
          have hb : PW X (.BoolOp .And (y :: rest) pos) (tRT X.K cls E (evT cl b)) := by
            cases rest with
            | nil => exact pw_and1 (soundT b c y h.2).1
            | cons z zs => exact (soundT b c _ h.2).2 _ _ _ rfl
          have main : PW X (.BoolOp .And (x :: y :: rest) pos) (tRT X.K cls E (evT cl (.and a b))) := fun whole pins s σc H Q I q => pw_and (soundT a c x h.1).1 hb whole pins s σc H Q I (by
            obtain ⟨b, h, σ, R, S, s⟩ := q
            refine sim_T R S s fun b2 h2 H2 k R2 x2 s2 => ?_
            cases k with
            | false => rw [if_neg Bool.false_ne_true]; exact s2.here R2
            | true => rw [if_pos rfl]; exact ⟨b2, h2, σ, R2, S.mono R.nf x2, s2⟩)
          exact ⟨main.pt, fun _ _ _ _ => main⟩
    | _ => cases h
  | .or a b, E, X, sc, c, x, h => by
    cases x with
    | BoolOp op vs pos =>
      cases op with
      | And => cases h
      | Or =>
        rcases vs with _ | ⟨x, _ | ⟨y, rest⟩⟩
        · cases h
        · cases h
        · simp only [chkT, Bool.and_eq_true] at h
          have hb : PW X (.BoolOp .Or (y :: rest) pos) (tRT X.K cls E (evT cl b)) := by
            cases rest with
            | nil => exact pw_or1 (soundT b c y h.2).1
            | cons z zs => exact (soundT b c _ h.2).2 _ _ _ rfl
          have main : PW X (.BoolOp .Or (x :: y :: rest) pos) (tRT X.K cls E (evT cl (.or a b))) := fun whole pins s σc H Q I q => pw_or (soundT a c x h.1).1 hb whole pins s σc H Q I (by
            obtain ⟨b, h, σ, R, S, s⟩ := q
            refine sim_T R S s fun b2 h2 H2 k R2 x2 s2 => ?_
            cases k with
            | false => rw [if_neg Bool.false_ne_true]; exact ⟨b2, h2, σ, R2, S.mono R.nf x2, s2⟩
            | true => rw [if_pos rfl]; exact s2.here R2)
          exact ⟨main.pt, fun _ _ _ _ => main⟩
    | _ => cases h
  | .not a, E, X, sc, c, x, h => by
    cases x with
    | UnaryOp op y pos =>
      cases op with
      | Not =>
        exact ⟨PT.mono (pt_not (soundT a c y h).1) fun σc H Q ⟨b, h, σ, R, S, s⟩ => sim_T R S s fun b2 h2 H2 k R2 x2 s2 => s2.here R2, fun _ _ _ e => by cases e⟩
      | _ => cases h
    | _ => cases h
theorem soundEs : ∀ (es : Es) {E : XK} {X : Cx} {sc : Scope} (c : Cok Z cls cl CX E X sc) (xs : List Expr), chkEs Z sc es xs = true → PA X xs (tRA X.K cls E (evs cl es))
  | .nil, E, X, sc, c, xs, h => by
    cases xs with
    | nil => exact PA.mono pa_nil fun σc H Q ⟨b, h, σ, R, S, s⟩ => s.here R [] .nil
    | cons _ _ => cases h
  | .cons e es, E, X, sc, c, xs, h => by
    cases xs with
    | nil => cases h
    | cons x xs =>
      simp only [chkEs, Bool.and_eq_true] at h
      refine PA.mono (pa_cons (soundE e c x h.1) (soundEs es c xs h.2) (chkE_star h.1 _ _)) fun σc H Q ⟨b, h, σ, R, S, s⟩ => sim_one R S s fun b2 h2 H2 x u R2 x2 ru s2 => ?_
      cases kp : keepable x with
      | false => simp only [kp] at s2; exact s2.elim
      | true =>
        simp only [kp, if_true] at s2
        exact ⟨b2, h2, σ, R2, S.mono R.nf x2, s2.bind.mono fun b3 h3 H3 vs x3 R3 s3 us rr => s3.here R3 _ (.cons ((ru.keep kp).mono R2.nf x3) rr)⟩
theorem soundEp : ∀ (es : Es) {E : XK} {X : Cx} {sc : Scope} (c : Cok Z cls cl CX E X sc) (xs : List Expr), chkEs Z sc es xs = true → PA X xs (tRP X.K cls E (evp cl es))
  | .nil, E, X, sc, c, xs, h => by
    cases xs with
    | nil => exact PA.mono pa_nil fun σc H Q ⟨b, h, σ, R, S, s⟩ => s.here R [] .nil
    | cons _ _ => cases h
  | .cons e es, E, X, sc, c, xs, h => by
    cases xs with
    | nil => cases h
    | cons x xs =>
      simp only [chkEs, Bool.and_eq_true] at h
      refine PA.mono (pa_cons (soundE e c x h.1) (soundEp es c xs h.2) (chkE_star h.1 _ _)) fun σc H Q ⟨b, h, σ, R, S, s⟩ => sim_one R S s fun b2 h2 H2 x u R2 x2 ru s2 => ?_
      exact ⟨b2, h2, σ, R2, S.mono R.nf x2, s2.bind.mono fun b3 h3 H3 vs x3 R3 s3 us rr => s3.here R3 _ (.cons (ru.mono R2.nf x3) rr)⟩
theorem soundEn : ∀ (es : Es) {E : XK} {X : Cx} {sc : Scope} (c : Cok Z cls cl CX E X sc) (xs : List Expr), chkEs Z sc es xs = true → PA X xs (tRN X.K cls E (evn cl es))
  | .nil, E, X, sc, c, xs, h => by
    cases xs with
    | nil => exact PA.mono pa_nil fun σc H Q ⟨b, h, σ, R, S, s⟩ => s.here R [] .nil .nil
    | cons _ _ => cases h
  | .cons e es, E, X, sc, c, xs, h => by
    cases xs with
    | nil => cases h
    | cons x xs =>
      simp only [chkEs, Bool.and_eq_true] at h
      refine PA.mono (pa_cons (soundE e c x h.1) (soundEn es c xs h.2) (chkE_star h.1 _ _)) fun σc H Q ⟨b, h, σ, R, S, s⟩ => ?_
      refine ⟨b, h, σ, R, S, s.bind.mono fun b2 h2 H2 x x2 R2 s2 u ru hn => ?_⟩
      cases kp : isPeek x with
      | true => simp only [kp, if_true] at s2; exact s2.elim
      | false =>
        simp only [kp] at s2
        refine ⟨b2, h2, σ, R2, S.mono R.nf x2, (Sim.bind s2).mono fun b3 h3 H3 vs x3 R3 s3 us rr nn => ?_⟩
        refine s3.here R3 _ (.cons (ru.mono R2.nf x3) rr) (.cons hn (nn.dom x2.dom) fun ys a a2 ev eu zs q z => ?_)
        -- what comes later is another list than this one
        rw [← z] at q
        have hc := nn.new q
        rw [ev, eu] at ru
        obtain ⟨a', ys', ea, _, _, hH, _⟩ := ru
        cases ea
        rw [hH] at hc; cases hc
theorem soundO : ∀ (o : Eo) {E : XK} {X : Cx} {sc : Scope} (c : Cok Z cls cl CX E X sc) (x : Option Expr), chkO Z sc o x = true → PO X x (tRO X.K cls E (evo cl o))
  | .no, E, X, sc, c, x, h => by
    cases x with
    | none => exact PO.mono po_none fun σc H Q ⟨b, h, σ, R, S, s⟩ => s.here R
    | some _ => cases h
  | .so e, E, X, sc, c, x, h => by
    cases x with
    | none => cases h
    | some y =>
      refine PO.mono (po_some (soundE e c y h)) fun σc H Q ⟨b, h, σ, R, S, s⟩ => sim_one R S s fun b2 h2 H2 x u R2 x2 ru s2 => ?_
      cases x with
      | int i => cases ru; exact ⟨i, rfl, s2.here R2⟩
      | _ => exact s2.elim
theorem soundTo : ∀ (o : To) {E : XK} {X : Cx} {sc : Scope} (c : Cok Z cls cl CX E X sc) (xs : List Expr), chkTo Z sc o xs = true → PTs X xs (tRT X.K cls E (evc cl o))
  | .no, E, X, sc, c, xs, h => by
    cases xs with
    | nil => exact fun pins s σc H Q I ⟨b, h, σ, R, S, sm⟩ => pts_nil pins s σc H Q I (sm.here R)
    | cons _ _ => cases h
  | .so t, E, X, sc, c, xs, h => by
    rcases xs with _ | ⟨x, _ | ⟨_, _⟩⟩
    · cases h
    · exact pts_one (soundT t c x h).1
    · cases h
theorem soundI : ∀ (it : R.It) {E : XK} {X : Cx} {sc : Scope} (c : Cok Z cls cl CX E X sc) (x tg : Expr), chkI Z sc it x tg = true → PI X tg x (tRI X.K cls E (evI cl it))
  | .each e, E, X, sc, c, x, tg, h => pi_each (soundE e c x h)
  | .rng1 a, E, X, sc, c, x, tg, h => by
    cases x with
    | Call fn xs kws pos =>
      cases fn with
      | Name y p =>
        rcases xs with _ | ⟨x, _ | ⟨_, _⟩⟩ <;> rcases kws with _ | ⟨_, _⟩ <;> first | cases h | skip
        simp only [chkI, Bool.and_eq_true, decide_eq_true_eq] at h
        obtain ⟨⟨rfl, h2⟩, h3⟩ := h
        have gg : Gl X "range" := by show X.env.scope.names.lookup _ = _; rw [c.hsc]; exact gl_of h2
        refine PI.mono (pi_range1 gg c.nor (pa_cons (soundE a c x h3) pa_nil (chkE_star h3 _ _)) (chkE_star h3 _ _)) fun σc H Q ⟨b, h, σ, R, S, s⟩ => sim_one R S s fun b2 h2 H2 x u R2 x2 ru s2 => ?_
        cases x with
        | int j =>
          cases ru
          simp only at s2
          by_cases hj : rgOk j = true
          · rw [if_pos hj] at s2
            have hj := rgOk_ok hj
            exact ⟨j, rfl, hj.1, hj.2, s2.here R2 _ wk_rng⟩
          · rw [if_neg hj] at s2; exact s2.elim
        | _ => exact s2.elim
      | _ => cases h
    | _ => cases h
  | .rng2 a b, E, X, sc, c, x, tg, h => by
    cases x with
    | Call fn xs kws pos =>
      cases fn with
      | Name y p =>
        rcases xs with _ | ⟨x, _ | ⟨z, _ | ⟨_, _⟩⟩⟩ <;> rcases kws with _ | ⟨_, _⟩ <;> first | cases h | skip
        simp only [chkI, Bool.and_eq_true, decide_eq_true_eq] at h
        obtain ⟨⟨⟨rfl, h2⟩, h3⟩, h4⟩ := h
        have gg : Gl X "range" := by show X.env.scope.names.lookup _ = _; rw [c.hsc]; exact gl_of h2
        refine PI.mono (pi_range2 gg c.nor (pa_cons (soundE a c x h3) (pa_cons (soundE b c z h4) pa_nil (chkE_star h4 _ _)) (chkE_star h3 _ _)) (by rw [chkE_star h3, chkE_star h4]; rfl) (chkE_star h4 _ _)) fun σc H Q ⟨b, h, σ, R, S, s⟩ => sim_two R S s fun b2 h2 H2 x y u w R2 x2 ru rw_ s2 => ?_
        cases x with
        | int i =>
          cases y with
          | int j =>
            cases ru; cases rw_
            simp only at s2
            by_cases hj : (rgOk i && rgOk j) = true
            · rw [if_pos hj] at s2
              rw [Bool.and_eq_true] at hj
              have hj : -(2 ^ 62) ≤ i ∧ i < 2 ^ 62 ∧ -(2 ^ 62) ≤ j ∧ j < 2 ^ 62 := ⟨(rgOk_ok hj.1).1, (rgOk_ok hj.1).2, (rgOk_ok hj.2).1, (rgOk_ok hj.2).2⟩
              exact ⟨i, j, rfl, hj, s2.here R2 _ wk_rng⟩
            · rw [if_neg hj] at s2; exact s2.elim
          | _ => exact s2.elim
        | _ => exact s2.elim
      | _ => cases h
    | _ => cases h
  | .rng3 a b d, E, X, sc, c, x, tg, h => by
    cases x with
    | Call fn xs kws pos =>
      cases fn with
      | Name y p =>
        rcases xs with _ | ⟨x, _ | ⟨z, _ | ⟨t, _ | ⟨_, _⟩⟩⟩⟩ <;> rcases kws with _ | ⟨_, _⟩ <;> first | cases h | skip
        simp only [chkI, Bool.and_eq_true, decide_eq_true_eq] at h
        obtain ⟨⟨⟨⟨rfl, h2⟩, h3⟩, h4⟩, h5⟩ := h
        have gg : Gl X "range" := by show X.env.scope.names.lookup _ = _; rw [c.hsc]; exact gl_of h2
        refine PI.mono (pi_range3 gg c.nor (pa_cons (soundE a c x h3) (pa_cons (soundE b c z h4) (pa_cons (soundE d c t h5) pa_nil (chkE_star h5 _ _)) (chkE_star h4 _ _)) (chkE_star h3 _ _)) (chkE_star h3 _ _) (by rw [chkE_star h4, chkE_star h5]; rfl)) fun σc H Q ⟨b, h, σ, R, S, s⟩ => sim_two R S s fun b2 h2 H2 x y u w R2 x2 ru rw_ s2 => ?_
        refine sim_one R2 (S.mono R.nf x2) s2 fun b3 h3 H3 z v R3 x3 rz s3 => ?_
        cases x with
        | int i =>
          cases y with
          | int j =>
            cases z with
            | int k =>
              cases ru; cases rw_; cases rz
              simp only at s3
              split at s3
              · rename_i hj
                rw [Bool.and_eq_true, Bool.and_eq_true, decide_eq_true_eq] at hj
                obtain ⟨⟨rfl, g1⟩, g3⟩ := hj
                obtain ⟨g1, g2⟩ := rgOk_ok g1
                obtain ⟨g3, g4⟩ := rgOk_ok g3
                exact ⟨i, j, -1, _, rfl, RgC.neg g1 g2 g3 g4, s3.here R3 _ wk_rngC⟩
              · exact s3.elim
            | _ => exact s3.elim
          | _ => exact s3.elim
        | _ => exact s3.elim
      | _ => cases h
    | _ => cases h
  | .enum a, E, X, sc, c, x, tg, h => by
    cases x with
    | Call fn xs kws pos =>
      cases fn with
      | Name y p =>
        rcases xs with _ | ⟨x, _ | ⟨_, _⟩⟩ <;> rcases kws with _ | ⟨_, _⟩ <;> cases tg <;> first | cases h | skip
        simp only [chkI, Bool.and_eq_true, decide_eq_true_eq] at h
        obtain ⟨⟨rfl, h2⟩, h3⟩ := h
        have gg : Gl X "enumerate" := by show X.env.scope.names.lookup _ = _; rw [c.hsc]; exact gl_of h2
        refine PI.mono (pi_enum gg c.noe (pa_cons (soundE a c x h3) pa_nil (chkE_star h3 _ _)) (chkE_star h3 _ _)) fun σc H Q ⟨b, h, σ, R, S, s⟩ => sim_one R S s fun b2 h2 H2 x u R2 x2 ru s2 => ?_
        unfold wkEnum at s2
        cases e : rdL h2 x with
        | none => rw [e] at s2; exact s2.elim
        | some xs =>
          rw [e] at s2
          obtain ⟨a, ys, rfl, hq, rr⟩ := rdL_sq R2 ru e
          exact ⟨a, ys, rfl, hq, s2.here R2 _ (wk_enum R2 ru e)⟩
      | _ => cases h
    | _ => cases h
  | .zip a b, E, X, sc, c, x, tg, h => by
    cases x with
    | Call fn xs kws pos =>
      cases fn with
      | Name y p =>
        rcases xs with _ | ⟨x, _ | ⟨z, _ | ⟨_, _⟩⟩⟩ <;> rcases kws with _ | ⟨_, _⟩ <;> cases tg <;> first | cases h | skip
        simp only [chkI, Bool.and_eq_true, decide_eq_true_eq] at h
        obtain ⟨⟨⟨rfl, h2⟩, h3⟩, h4⟩ := h
        have gg : Gl X "zip" := by show X.env.scope.names.lookup _ = _; rw [c.hsc]; exact gl_of h2
        refine PI.mono (pi_zip gg c.noz (pa_cons (soundE a c x h3) (pa_cons (soundE b c z h4) pa_nil (chkE_star h4 _ _)) (chkE_star h3 _ _)) (chkE_star h3 _ _) (by rw [chkE_star h4]; rfl)) fun σc H Q ⟨b, h, σ, R, S, s⟩ => sim_two R S s fun b2 h2 H2 x y u w R2 x2 ru rw_ s2 => ?_
        unfold wkZip at s2
        cases e : rdL h2 x with
        | none => rw [e] at s2; exact s2.elim
        | some xs =>
          cases e' : rdL h2 y with
          | none => rw [e, e'] at s2; exact s2.elim
          | some ys =>
            rw [e, e'] at s2
            obtain ⟨a, zs, rfl, hq, rr⟩ := rdL_sq R2 ru e
            obtain ⟨a2, zs2, rfl, hq2, rr2⟩ := rdL_sq R2 rw_ e'
            exact ⟨a, a2, zs, zs2, rfl, hq, hq2, s2.here R2 _ (wk_zip R2 ru rw_ e e')⟩
      | _ => cases h
    | _ => cases h
end
end
end R

end

section
set_option Elab.async false
set_option linter.all false
/-! The runner, part J: statements. -/
namespace R
open PySem PySem.Spec L2
/-- a def's body on its way: b0, H0 at its entry -/
structure At (K : PySem.W.Frag) (cls : Nat → Addr) (b0 : Ab) (H0 : Hp) (b : Ab) (h : AH) (H : Hp) (σ : AS) (σc : St) : Prop where
  x : Ext b0 H0 b H
  R : Rep K cls b h H
  s : Sr K b H σ σc
  new : ∀ (i : Nat) (xs : List AV) (a : Addr), σ[i]? = some (some (.own xs)) → σc[i]? = some (some (.ref a)) → H0 a = none
  ap : ∀ (i j : Nat) (xs ys : List AV) (a : Addr), i ≠ j → σ[i]? = some (some (.own xs)) → σ[j]? = some (some (.own ys)) → σc[i]? = some (some (.ref a)) → σc[j]? ≠ some (some (.ref a))
  np : ∀ (i : Nat) (xs : List AV), σ[i]? ≠ some (some (.peek xs))
def SimS (K : PySem.W.Frag) (cls : Nat → Addr) (b0 : Ab) (H0 : Hp) (b : Ab) (H : Hp) (r : Res Fl) (D : Ends) (E : XK) : Prop :=
  match r with
  | .ok (.nx σ') h' => ∀ b' H' σc', At K cls b0 H0 b' h' H' σ' σc' → WExt b H b' H' → D.nx σc' H'
  | .ok (.bk σ') h' => ∀ b' H' σc', At K cls b0 H0 b' h' H' σ' σc' → WExt b H b' H' → D.bk σc' H'
  | .ok (.ct σ') h' => ∀ b' H' σc', At K cls b0 H0 b' h' H' σ' σc' → WExt b H b' H' → D.ct σc' H'
  | .ok (.rt v) h' => ∀ b' H' u, Ext b0 H0 b' H' → Rep K cls b' h' H' → RelA K b' H' v u → D.rt u H'
  | .exc c h' => ∀ b' H' d, Ext b0 H0 b' H' → Rep K cls b' h' H' → E (.ref (cls c)) d H'
  | .stuck => False
def tRS (K : PySem.W.Frag) (cls : Nat → Addr) (E : XK) (f : AS → AH → Res Fl) : TS := fun D σc H => ∃ b0 H0 b h σ, At K cls b0 H0 b h H σ σc ∧ SimS K cls b0 H0 b H (f σ h) D E
section
variable {K : PySem.W.Frag} {cls : Nat → Addr} {b0 b b1 : Ab} {H0 H H1 : Hp} {h h1 : AH} {σ : AS} {σc : St} {D : Ends} {E : XK} {r : Res Fl}
theorem SimS.later (w : WExt b H b1 H1) (s : SimS K cls b0 H0 b H r D E) : SimS K cls b0 H0 b1 H1 r D E := by
  cases r with
  | ok f h' =>
    cases f with
    | nx σ' => exact fun b' H' σc' A w' => s b' H' σc' A (w.trans w')
    | bk σ' => exact fun b' H' σc' A w' => s b' H' σc' A (w.trans w')
    | ct σ' => exact fun b' H' σc' A w' => s b' H' σc' A (w.trans w')
    | rt v => exact s
  | exc c h' => exact s
  | stuck => exact s
theorem At.go (A : At K cls b0 H0 b h H σ σc) (x : Ext b H b1 H1) (R : Rep K cls b1 h1 H1) : At K cls b0 H0 b1 h1 H1 σ σc := ⟨A.x.trans x, R, A.s.mono A.R.nf x, A.new, A.ap, A.np⟩
/-- an expression within a statement -/
theorem st_one {f : AS → AH → Res AV} {g : AV → AH → Res Fl} {Q : VK} (A : At K cls b0 H0 b h H σ σc) (s : SimS K cls b0 H0 b H ((f σ h).bind g) D E)
    (step : ∀ b1 h1 H1 v u, At K cls b0 H0 b1 h1 H1 σ σc → Ext b H b1 H1 → RelT K b1 H1 v u → (∀ xs a, v = .own xs → u = .ref a → H a = none) → SimS K cls b0 H0 b1 H1 (g v h1) D E → Q u H1) : tR K cls E f σc H Q := by
  refine ⟨b, h, σ, A.R, A.s, ?_⟩
  cases e : f σ h with
  | stuck => rw [e] at s; exact s
  | exc c h' => rw [e] at s; exact fun b' H' d x R => s b' H' d (A.x.trans x) R
  | ok v h' =>
    rw [e] at s
    exact fun b1 H1 x R u ru hn => step b1 h' H1 v u (A.go x R) x ru hn (SimS.later (x.w A.R.nf) s)
theorem st_T {f : AS → AH → Res Bool} {g : Bool → AH → Res Fl} {Q : Bool → Hp → Prop} (A : At K cls b0 H0 b h H σ σc) (s : SimS K cls b0 H0 b H ((f σ h).bind g) D E)
    (step : ∀ b1 h1 H1 v, At K cls b0 H0 b1 h1 H1 σ σc → Ext b H b1 H1 → SimS K cls b0 H0 b1 H1 (g v h1) D E → Q v H1) : tRT K cls E f σc H Q := by
  refine ⟨b, h, σ, A.R, A.s, ?_⟩
  cases e : f σ h with
  | stuck => rw [e] at s; exact s
  | exc c h' => rw [e] at s; exact fun b' H' d x R => s b' H' d (A.x.trans x) R
  | ok v h' =>
    rw [e] at s
    exact fun b1 H1 x R => step b1 h' H1 v (A.go x R) x (SimS.later (x.w A.R.nf) s)
theorem st_N {f : AS → AH → Res (List AV)} {g : List AV → AH → Res Fl} {Q : List V → Hp → Prop} (A : At K cls b0 H0 b h H σ σc) (s : SimS K cls b0 H0 b H ((f σ h).bind g) D E)
    (step : ∀ b1 h1 H1 vs us, At K cls b0 H0 b1 h1 H1 σ σc → Ext b H b1 H1 → RelTs K b1 H1 vs us → News H vs us → SimS K cls b0 H0 b1 H1 (g vs h1) D E → Q us H1) : tRN K cls E f σc H Q := by
  refine ⟨b, h, σ, A.R, A.s, ?_⟩
  cases e : f σ h with
  | stuck => rw [e] at s; exact s
  | exc c h' => rw [e] at s; exact fun b' H' d x R => s b' H' d (A.x.trans x) R
  | ok v h' =>
    rw [e] at s
    exact fun b1 H1 x R us ru hn => step b1 h' H1 v us (A.go x R) x ru hn (SimS.later (x.w A.R.nf) s)
theorem st_I {f : AS → AH → Res Wk} {g : Wk → AH → Res Fl} {Q : L2.It → Hp → Prop} (A : At K cls b0 H0 b h H σ σc) (s : SimS K cls b0 H0 b H ((f σ h).bind g) D E)
    (step : ∀ b1 h1 H1 w J, At K cls b0 H0 b1 h1 H1 σ σc → WkJ K cls w J b1 H1 → SimS K cls b0 H0 b1 H1 (g w h1) D E → Q J H1) : tRI K cls E f σc H Q := by
  refine ⟨b, h, σ, A.R, A.s, ?_⟩
  cases e : f σ h with
  | stuck => rw [e] at s; exact s
  | exc c h' => rw [e] at s; exact fun b' H' d x R => s b' H' d (A.x.trans x) R
  | ok v h' =>
    rw [e] at s
    exact fun b1 H1 x R J hJ => step b1 h' H1 v J (A.go x R) hJ (SimS.later (x.w A.R.nf) s)
/-- a slot takes a value -/
theorem At.set {i : Nat} {v : AV} {u : V} (A : At K cls b0 H0 b h H σ σc) (hi : i < σ.length) (hp : isPeek v = false) (r : RelT K b H v u) (hn : ∀ xs a, v = .own xs → u = .ref a → H0 a = none ∧ ∀ (j : Nat) (ys : List AV), j ≠ i → σ[j]? = some (some (.own ys)) → σc[j]? ≠ some (some (.ref a))) :
    At K cls b0 H0 b h H (σ.set i (some v)) (σc.set i (some u)) := by
  have hic : i < σc.length := by rw [← A.s.len]; exact hi
  refine ⟨A.x, A.R, ⟨by simp [A.s.len], fun j w e => ?_⟩, fun j xs a e1 e2 => ?_, fun j k xs ys a hjk e1 e2 e3 => ?_, fun j xs e => ?_⟩
  · by_cases hj : i = j
    · subst hj
      rw [List.getElem?_set_self hi] at e
      cases e
      exact ⟨u, List.getElem?_set_self hic, r⟩
    · rw [List.getElem?_set_ne hj] at e ⊢
      exact A.s.rel j w e
  · by_cases hj : i = j
    · subst hj
      rw [List.getElem?_set_self hi] at e1
      rw [List.getElem?_set_self hic] at e2
      cases e1; cases e2
      exact (hn xs a rfl rfl).1
    · rw [List.getElem?_set_ne hj] at e1 e2
      exact A.new j xs a e1 e2
  · by_cases hj : i = j
    · subst hj
      rw [List.getElem?_set_self hi] at e1
      rw [List.getElem?_set_self hic] at e3
      rw [List.getElem?_set_ne hjk] at e2 ⊢
      cases e1; cases e3
      exact (hn xs a rfl rfl).2 k ys (Ne.symm hjk) e2
    · rw [List.getElem?_set_ne hj] at e1 e3
      by_cases hk : i = k
      · subst hk
        rw [List.getElem?_set_self hi] at e2
        rw [List.getElem?_set_self hic]
        cases e2
        intro z
        cases z
        exact (hn ys a rfl rfl).2 j xs hjk e1 e3
      · rw [List.getElem?_set_ne hk] at e2 ⊢
        exact A.ap j k xs ys a hjk e1 e2 e3
  · by_cases hj : i = j
    · subst hj
      rw [List.getElem?_set_self hi] at e
      cases e
      cases hp
    · rw [List.getElem?_set_ne hj] at e
      exact A.np j xs e
theorem At.setK {i : Nat} {v : AV} {u : V} (A : At K cls b0 H0 b h H σ σc) (hi : i < σ.length) (hk : keepable v = true) (r : RelA K b H v u) : At K cls b0 H0 b h H (σ.set i (some v)) (σc.set i (some u)) :=
  A.set hi (by cases v <;> first | rfl | cases hk) (RelT.of r) fun xs a e => by subst e; cases hk
theorem At.upS {T : List Nat} {σ' : AS} {σc' : St} (A : At K cls b0 H0 b h H σ σc) (u : UpdS K b H T σ σc σ' σc') : At K cls b0 H0 b h H σ' σc' := by
  have own : ∀ (i : Nat) (xs : List AV), σ'[i]? = some (some (.own xs)) → σ[i]? = some (some (.own xs)) ∧ σc'[i]? = σc[i]? := fun i xs e => by
    rcases u.at' i with ⟨h1, h2⟩ | ⟨v, w, h1, h2, h3, h4⟩
    · exact ⟨h1.symm.trans e, h2⟩
    · rw [h1] at e; cases e; cases h3
  refine ⟨A.x, A.R, u.sr A.s, fun i xs a e1 e2 => ?_, fun i j xs ys a hij e1 e2 e3 => ?_, fun i xs e => ?_⟩
  · obtain ⟨h1, h2⟩ := own i xs e1
    exact A.new i xs a h1 (h2 ▸ e2)
  · obtain ⟨h1, h2⟩ := own i xs e1
    obtain ⟨h3, h4⟩ := own j ys e2
    rw [h4]
    exact A.ap i j xs ys a hij h1 h3 (h2 ▸ e3)
  · rcases u.at' i with ⟨h1, h2⟩ | ⟨v, w, h1, h2, h3, h4⟩
    · exact A.np i xs (h1.symm.trans e)
    · rw [h1] at e; cases e; cases h3
/-- a slot's own list is changed -/
theorem At.own {i : Nat} {xs xs' : List AV} {a : Addr} {ys' : List V} (A : At K cls b0 H0 b h H σ σc) (e : σ[i]? = some (some (.own xs))) (ec : σc[i]? = some (some (.ref a))) (rs : RelAs K b H xs' ys') :
    At K cls b0 H0 b h (upd H a (.lst ys')) (σ.set i (some (.own xs'))) σc ∧ WExt b H b (upd H a (.lst ys')) := by
  obtain ⟨u, eu, r⟩ := A.s.rel i _ e
  rw [ec] at eu; cases eu
  obtain ⟨a', zs, ea, hF, hρ, hH, rr⟩ := r
  cases ea
  have hi : i < σ.length := (List.getElem?_eq_some_iff.mp e).1
  have w : WExt b H b (upd H a (.lst ys')) := wext_own hF
  refine ⟨⟨A.x.own (A.new i xs a e ec), A.R.own hF hρ, ⟨by simp [A.s.len], fun j v ej => ?_⟩, fun j zs' c e1 e2 => ?_, fun j k zs' ws c hjk e1 e2 e3 => ?_, fun j zs' ej => ?_⟩, w⟩
  · by_cases hj : i = j
    · subst hj
      rw [List.getElem?_set_self hi] at ej
      cases ej
      exact ⟨.ref a, ec, a, ys', rfl, hF, hρ, upd_same, rs.monoW w⟩
    · rw [List.getElem?_set_ne hj] at ej
      obtain ⟨u, eu, r⟩ := A.s.rel j v ej
      refine ⟨u, eu, ?_⟩
      cases v with
      | own vs =>
        obtain ⟨c, ws, rfl, cF, cρ, cH, cr⟩ := r
        have ne : c ≠ a := fun z => A.ap i j xs vs a hj e ej ec (by rw [eu, z])
        exact ⟨c, ws, rfl, cF, cρ, by rw [upd_ne ne]; exact cH, cr.monoW w⟩
      | peek vs => exact absurd ej (A.np j vs)
      | _ => exact RelA.monoW w r
  · by_cases hj : i = j
    · subst hj
      rw [ec] at e2; cases e2
      exact A.new i xs a e ec
    · rw [List.getElem?_set_ne hj] at e1
      exact A.new j zs' c e1 e2
  · have back : ∀ (m : Nat) (ts : List AV), (σ.set i (some (.own xs')))[m]? = some (some (.own ts)) → ∃ ts', σ[m]? = some (some (.own ts')) := fun m ts em => by
      by_cases hm : i = m
      · exact ⟨xs, by rw [← hm]; exact e⟩
      · rw [List.getElem?_set_ne hm] at em; exact ⟨ts, em⟩
    obtain ⟨t1, h1⟩ := back j zs' e1
    obtain ⟨t2, h2⟩ := back k ws e2
    exact A.ap j k t1 t2 c hjk h1 h2 e3
  · by_cases hj : i = j
    · subst hj
      rw [List.getElem?_set_self hi] at ej
      cases ej
    · rw [List.getElem?_set_ne hj] at ej
      exact A.np j zs' ej
/-- a slot's own list is settled -/
theorem At.frz {i : Nat} {xs : List AV} (A : At K cls b0 H0 b h H σ σc) (e : σ[i]? = some (some (.own xs))) : ∃ b', At K cls b0 H0 b' h H (σ.set i (some (.lst xs))) σc ∧ WExt b H b' H := by
  obtain ⟨u, eu, a, ys, ea, hF, hρ, hH, rr⟩ := A.s.rel i _ e
  subst ea
  have hi : i < σ.length := (List.getElem?_eq_some_iff.mp e).1
  have n0 := A.new i xs a e eu
  have w : WExt b H ⟨b.ρ, fun c => b.F c ∨ c = a⟩ H := ⟨List.prefix_refl _, fun _ z => .inl z, fun _ _ _ q => q⟩
  refine ⟨⟨b.ρ, fun c => b.F c ∨ c = a⟩, ⟨⟨A.x.pre, A.x.newρ, fun c z => .inl (A.x.fr c z), fun c z => z.elim (A.x.newF c) fun q => .inr (by rw [q]; exact n0), A.x.keep, A.x.dom⟩,
    ⟨A.R.len, A.R.nd, fun c hc z => z.elim (A.R.nf c hc) fun q => hρ (by rw [← q]; exact hc), fun c z => z.elim (A.R.fs c) fun q => ⟨.lst ys, by rw [q]; exact hH⟩, fun n o c e1 e2 => (A.R.ob n o c e1 e2).monoW w⟩,
    ⟨by simp [A.s.len], fun j v ej => ?_⟩, fun j zs c e1 e2 => ?_, fun j k zs ws c hjk e1 e2 e3 => ?_, fun j zs ej => ?_⟩, w⟩
  · by_cases hj : i = j
    · subst hj
      rw [List.getElem?_set_self hi] at ej
      cases ej
      exact ⟨.ref a, eu, RelA.lst (.inr rfl) hH (rr.monoW w)⟩
    · rw [List.getElem?_set_ne hj] at ej
      obtain ⟨u, eu', r⟩ := A.s.rel j v ej
      refine ⟨u, eu', ?_⟩
      cases v with
      | own vs =>
        obtain ⟨c, ws, rfl, cF, cρ, cH, cr⟩ := r
        have ne : c ≠ a := fun z => A.ap i j xs vs a hj e ej eu (by rw [eu', z])
        exact ⟨c, ws, rfl, fun z => z.elim cF ne, cρ, cH, cr.monoW w⟩
      | peek vs => exact absurd ej (A.np j vs)
      | _ => exact RelA.monoW w r
  · by_cases hj : i = j
    · subst hj
      rw [List.getElem?_set_self hi] at e1
      cases e1
    · rw [List.getElem?_set_ne hj] at e1
      exact A.new j zs c e1 e2
  · by_cases hj : i = j
    · subst hj
      rw [List.getElem?_set_self hi] at e1
      cases e1
    · by_cases hk : i = k
      · subst hk
        rw [List.getElem?_set_self hi] at e2
        cases e2
      · rw [List.getElem?_set_ne hj] at e1
        rw [List.getElem?_set_ne hk] at e2
        exact A.ap j k zs ws c hjk e1 e2 e3
  · by_cases hj : i = j
    · subst hj
      rw [List.getElem?_set_self hi] at ej
      cases ej
    · rw [List.getElem?_set_ne hj] at ej
      exact A.np j zs ej
/-- a slot's own list becomes an object of the heap -/
theorem At.pub {i : Nat} {xs : List AV} (A : At K cls b0 H0 b h H σ σc) (e : σ[i]? = some (some (.own xs))) : ∃ b', At K cls b0 H0 b' (h ++ [.lst xs]) H (σ.set i (some (.ref h.length))) σc ∧ WExt b H b' H := by
  obtain ⟨u, eu, a, ys, ea, hF, hρ, hH, rr⟩ := A.s.rel i _ e
  subst ea
  have hi : i < σ.length := (List.getElem?_eq_some_iff.mp e).1
  have n0 := A.new i xs a e eu
  have w : WExt b H ⟨b.ρ ++ [a], b.F⟩ H := ⟨List.prefix_append _ _, fun _ z => z, fun _ _ _ q => q⟩
  refine ⟨⟨b.ρ ++ [a], b.F⟩, ⟨⟨A.x.pre.trans (List.prefix_append _ _), fun c z => (List.mem_append.mp z).elim (A.x.newρ c) fun q => .inr (by rw [List.mem_singleton.mp q]; exact n0), A.x.fr, A.x.newF, A.x.keep, A.x.dom⟩,
    ⟨by simp [A.R.len], nd_snoc A.R.nd hρ, fun c hc z => (List.mem_append.mp hc).elim (fun q => A.R.nf c q z) fun q => hF (by rw [← List.mem_singleton.mp q]; exact z), A.R.fs, fun n o c e1 e2 => ?_⟩,
    ⟨by simp [A.s.len], fun j v ej => ?_⟩, fun j zs c e1 e2 => ?_, fun j k zs ws c hjk e1 e2 e3 => ?_, fun j zs ej => ?_⟩, w⟩
  · by_cases hn : n < h.length
    · rw [List.getElem?_append_left hn] at e1
      have e2 : b.ρ[n]? = some c := by rw [List.getElem?_append_left (by rw [A.R.len]; exact hn)] at e2; exact e2
      exact (A.R.ob n o c e1 e2).monoW w
    · rw [List.getElem?_append_right (by omega)] at e1
      have e2 : [a][n - b.ρ.length]? = some c := by rw [List.getElem?_append_right (by rw [A.R.len]; omega)] at e2; exact e2
      have hl := A.R.len
      have h0 : n - h.length = 0 := by
        have := (List.getElem?_eq_some_iff.mp e1).1
        simp at this; omega
      rw [h0] at e1
      rw [hl, h0] at e2
      have e1 : AO.lst xs = o := Option.some.inj e1
      have e2 : a = c := Option.some.inj e2
      subst e1; subst e2
      exact ⟨ys, hH, rr.monoW w⟩
  · by_cases hj : i = j
    · subst hj
      rw [List.getElem?_set_self hi] at ej
      cases ej
      refine ⟨.ref a, eu, RelA.ref ?_⟩
      show (b.ρ ++ [a])[h.length]? = some a
      rw [← A.R.len]; simp
    · rw [List.getElem?_set_ne hj] at ej
      obtain ⟨u, eu', r⟩ := A.s.rel j v ej
      refine ⟨u, eu', ?_⟩
      cases v with
      | own vs =>
        obtain ⟨c, ws, rfl, cF, cρ, cH, cr⟩ := r
        have ne : c ≠ a := fun z => A.ap i j xs vs a hj e ej eu (by rw [eu', z])
        exact ⟨c, ws, rfl, cF, fun z => (List.mem_append.mp z).elim cρ fun q => ne (List.mem_singleton.mp q), cH, cr.monoW w⟩
      | peek vs => exact absurd ej (A.np j vs)
      | _ => exact RelA.monoW w r
  · by_cases hj : i = j
    · subst hj
      rw [List.getElem?_set_self hi] at e1
      cases e1
    · rw [List.getElem?_set_ne hj] at e1
      exact A.new j zs c e1 e2
  · by_cases hj : i = j
    · subst hj
      rw [List.getElem?_set_self hi] at e1
      cases e1
    · by_cases hk : i = k
      · subst hk
        rw [List.getElem?_set_self hi] at e2
        cases e2
      · rw [List.getElem?_set_ne hj] at e1
        rw [List.getElem?_set_ne hk] at e2
        exact A.ap j k zs ws c hjk e1 e2 e3
  · by_cases hj : i = j
    · subst hj
      rw [List.getElem?_set_self hi] at ej
      cases ej
    · rw [List.getElem?_set_ne hj] at ej
      exact A.np j zs ej
end
end R

end

section
set_option Elab.async false
set_option linter.all false
/-! The runner, part K: every checked statement is sound. -/
namespace R
open PySem PySem.Spec L2
/-! ### a, b, c = x, y, z -/
def tPar3 (i j k : Nat) (ta : TA) : TS := fun D σ H => ta σ H fun vs H1 => ∃ v w z, vs = [v, w, z] ∧ D.nx (((σ.set i (some v)).set j (some w)).set k (some z)) H1
theorem ps_par3 {X : Cx} {pos : Pos} {i j k : Nat} {x y z : Str} {a b c : Expr} {ta : TA} {px py pz pt : Pos} {kt k2 pt2} (hc : X.calm = true) (hN : X.N.Nodup) (hi : X.N[i]? = some x) (hj : X.N[j]? = some y) (hk : X.N[k]? = some z) (hij : i ≠ j) (hik : i ≠ k) (hjk : j ≠ k)
    (hx : X.env.scope.names.lookup x = some .local) (hy : X.env.scope.names.lookup y = some .local) (hz : X.env.scope.names.lookup z = some .local) (ha : PA X [a, b, c] ta)
    (hw : swappedStores [.Tuple [.Name x px, .Name y py, .Name z pz] kt pt] (.Tuple [a, b, c] k2 pt2) X.env = pure (some [x, y, z]))
    (hs : swapsWithSole [.Tuple [.Name x px, .Name y py, .Name z pz] kt pt] (.Tuple [a, b, c] k2 pt2) pos.line X.env = pure false := by rfl) :
    PS X (.Assign [.Tuple [.Name x px, .Name y py, .Name z pz] kt pt] (.Tuple [a, b, c] k2 pt2) pos) (tPar3 i j k ta) := by
  intro pins s σ H D I h
  rw [exec_Assign_arm]
  refine wpAny_bind (wpAny_standAt ?_)
  rw [hs]
  refine wpAny_bind (wpAny_pure ?_)
  rw [if_neg (by decide)]
  refine wpAny_bind (PyProof.Rows.Tuple_ (thn (ha _ pins s σ H _ I h) fun us s1 ⟨vs, H1, I1, r1, q1⟩ => ?_))
  obtain ⟨v, w, z', e1, q1⟩ := q1
  subst e1
  obtain ⟨u1, u2, u3, rfl, rv, rw', rz⟩ : ∃ u1 u2 u3, us = [u1, u2, u3] ∧ RelV v u1 ∧ RelV w u2 ∧ RelV z' u3 := by
    cases r1 with
    | cons p q =>
      cases q with
      | cons p' q' =>
        cases q' with
        | cons p'' q'' =>
          cases q''
          exact ⟨_, _, _, rfl, p, p', p''⟩
  refine wpAny_newObj_type ?_ (by show 3 ≤ sizeLine; decide)
  have I2 : L2.Inv X pins σ H1 { s1 with heap := s1.heap.push { cls := .type "tuple", data := .seq [u1, u2, u3].toArray } } := I1.kept (t' := s1.toks) fun b o e => Heap.get?_push_of_some _ e
  rw [hw]
  refine wpAny_bind (wpAny_pure ?_)
  show wpAny (model X.prog X.w) X.A (do rule "assign.swapped-stores"; let items ← unpackItems (.ref s1.heap.objs.size) 3 none; assignInOrder [fun v => bindName X.env z v, fun v => bindName X.env y v, fun v => bindName X.env x v] items.reverse; pure Flow.next) _ _ _
  refine wpAny_bind (wpAny_rule (wpAny_bind (PyProof.Rows.unpackItems_tuple (items := #[u1, u2, u3]) (I.ok.hd hc) (PyProof.Rows.IsTup.new s1.heap _) fun h' hx' => ?_)))
  have I3 := I2.kept (h' := h') (t' := s1.toks) fun b o e => hx' b o (Nat.ne_of_lt (Heap.lt_size e)) e
  show wpAny _ _ (assignInOrder [fun v => bindName X.env z v, fun v => bindName X.env y v, fun v => bindName X.env x v] [u3, u2, u1] >>= fun _ => pure Flow.next) _ _ _
  refine wpAny_bind (PyProof.Rows.assignInOrder_cons (wpAny_bindName (store_ok I3 hN hk (.inl hz) rz (fun s2 I4 => ?_) (.inr hz))))
  refine PyProof.Rows.assignInOrder_cons (wpAny_bindName (store_ok I4 hN hj (.inl hy) rw' (fun s3 I5 => ?_) (.inr hy)))
  refine PyProof.Rows.assignInOrder_cons (wpAny_bindName (store_ok I5 hN hi (.inl hx) rv (fun s4 I6 => PyProof.Rows.assignInOrder_nil (wpAny_pure ?_)) (.inr hx)))
  rw [List.set_comm _ _ (Ne.symm hjk), List.set_comm _ _ (Ne.symm hik), List.set_comm _ _ (Ne.symm hij)] at I6
  exact ⟨_, H1, I6, q1⟩
/-- whether the stores of a, b = x, y go from the right: some true, some false, or not told -/
def swpN (sc : Scope) (ts : List Expr) : List Str :=
  let line := (ts.head?.map (·.pos.line)).getD 0
  ts.filterMap fun
    | .Name id pos => if sc.names.lookup id == some .local && pos.line == line then some id else none
    | _ => none
def swp (sc : Scope) (ts vs : List Expr) : Option Bool :=
  if !(ts.length == 2 || ts.length == 3) || vs.length != ts.length then some false
  else if (swpN sc ts).length != ts.length || (swpN sc ts).eraseDups.length != (swpN sc ts).length then some false
  else if vs.all (foldedForSure 8) then some false
  else if vs.all (constantsAlone 8) then none
  else some true
theorem swp_ok {env : Env} {ts vs : List Expr} {kt k2 : Nat} {pt pt2 : Pos} (hk : env.scope.kind = .function) (hv : (vs.any fun | .Starred .. => true | _ => false) = false) {c : Bool} (h : swp env.scope ts vs = some c) :
    swappedStores [.Tuple ts kt pt] (.Tuple vs k2 pt2) env = pure (if c then some (swpN env.scope ts) else none) := by
  have hb : env.blockKind = .function := by unfold Env.blockKind; rw [hk]; rfl
  have e0 : swappedStores [.Tuple ts kt pt] (.Tuple vs k2 pt2) env = (if (!(ts.length == 2 || ts.length == 3) || vs.length != ts.length || (env.blockKind != .function)) = true then pure none
      else if (vs.any fun | .Starred .. => true | _ => false) = true then pure none
      else if ((swpN env.scope ts).length != ts.length || (swpN env.scope ts).eraseDups.length != (swpN env.scope ts).length) = true then pure none
      else if vs.all (foldedForSure 8) = true then pure none
      else if vs.all (constantsAlone 8) = true then (do unsupported "assign.tuple-of-constant-expressions:order-of-the-stores"; pure (some (swpN env.scope ts))) else pure (some (swpN env.scope ts))) := by
    unfold swappedStores
    rfl
  rw [e0, hb, hv]
  unfold swp at h
  split at h
  · rename_i h1
    cases h
    rw [if_pos (by rw [h1]; rfl)]
    rfl
  · rename_i h1
    rw [Bool.not_eq_true] at h1
    rw [if_neg (by rw [h1]; decide), if_neg Bool.false_ne_true]
    split at h
    · rename_i h2
      cases h
      rw [if_pos h2]; rfl
    · rename_i h2
      rw [if_neg h2]
      split at h
      · rename_i h3
        cases h
        rw [if_pos h3]; rfl
      · rename_i h3
        rw [if_neg h3]
        split at h
        · cases h
        · rename_i h4
          cases h
          rw [if_neg h4]; rfl
/-! ### names in a row -/
def setC : List Nat → List V → St → St
  | i :: is, u :: us, σ => setC is us (σ.set i (some u))
  | _, _, σ => σ
def gNames : List Nat → TGs
  | [] => gNil
  | i :: is => gCons (gName i) (gNames is)
theorem gNames_of : ∀ {ts : List Nat} {us : List V} {σ : St} {H : Hp} {Q : St → Hp → Prop}, us.length = ts.length → Q (setC ts us σ) H → gNames ts us σ H Q
  | [], [], _, _, _, _, q => ⟨rfl, q⟩
  | [], _ :: _, _, _, _, e, _ => by cases e
  | _ :: _, [], _, _, _, e, _ => by cases e
  | i :: is, u :: us, σ, H, Q, e, q => ⟨u, us, rfl, gNames_of (by simpa using e) q⟩
def chkNs (Z : Stat) (sc : Scope) : List Nat → List Expr → Bool
  | [], [] => true
  | i :: is, .Name x _ :: xs => decide (Z.N[i]? = some x) && loc sc x && chkNs Z sc is xs
  | _, _ => false
section
variable {X : Cx} {Z : Stat} {sg : Scope}
theorem chkNs_len : ∀ {ts : List Nat} {xs : List Expr}, chkNs Z sg ts xs = true → ts.length = xs.length
  | [], [], _ => rfl
  | [], _ :: _, h => by cases h
  | _ :: _, [], h => by cases h
  | i :: is, x :: xs, h => by
    cases x with
    | Name y p =>
      simp only [chkNs, Bool.and_eq_true] at h
      simp [chkNs_len h.2]
    | _ => cases h
theorem chkNs_as : ∀ {ts : List Nat} {xs : List Expr}, chkNs Z sg ts xs = true → ∀ env : Env, (assignEach xs env).length = xs.length ∧ (assignEach xs env).findIdx? (·.1) = none
  | [], [], _, _ => ⟨rfl, rfl⟩
  | [], _ :: _, h, _ => by cases h
  | _ :: _, [], h, _ => by cases h
  | i :: is, x :: xs, h, env => by
    cases x with
    | Name y p =>
      simp only [chkNs, Bool.and_eq_true] at h
      obtain ⟨h1, h2⟩ := chkNs_as h.2 env
      have e : assignEach (.Name y p :: xs) env = (false, assign (.Name y p) env) :: assignEach xs env := rfl
      rw [e]
      exact ⟨by simp [h1], by simp [List.findIdx?_cons, h2]⟩
    | _ => cases h
theorem soundNs (hN : X.N = Z.N) (nd : Z.N.Nodup) (g : Gok X sg) : ∀ (ts : List Nat) (xs : List Expr), chkNs Z sg ts xs = true → PGs X xs (gNames ts)
  | [], [], _ => pgs_nil
  | [], _ :: _, h => by cases h
  | _ :: _, [], h => by cases h
  | i :: is, x :: xs, h => by
    cases x with
    | Name y p =>
      simp only [chkNs, Bool.and_eq_true, decide_eq_true_eq] at h
      obtain ⟨h1, h2⟩ := g y h.1.2
      exact pgs_cons (pg_name (i := i) (by rw [hN]; exact nd) (by rw [hN]; exact h.1.1) h1 h2) (soundNs hN nd g is xs h.2) rfl
    | _ => cases h
end
section
variable {K : PySem.W.Frag} {cls : Nat → Addr} {b0 b : Ab} {H0 H : Hp} {h : AH}
theorem At.setN : ∀ {ts : List Nat} {vs : List AV} {us : List V} {σ σ' : AS} {σc : St} {Hs : Hp}, At K cls b0 H0 b h H σ σc → RelTs K b H vs us → News Hs vs us →
    (∀ (ys : List AV) (a : Addr), (AV.own ys, V.ref a) ∈ vs.zip us → H0 a = none ∧ ∀ (j : Nat) (zs : List AV), σ[j]? = some (some (.own zs)) → σc[j]? ≠ some (some (.ref a))) → R.setN ts vs σ = some σ' → At K cls b0 H0 b h H σ' (setC ts us σc)
  | [], [], us, σ, σ', σc, Hs, A, r, n, f, e => by cases e; cases r; exact A
  | [], _ :: _, _, _, _, _, _, _, _, _, _, e => by cases e
  | _ :: _, [], _, _, _, _, _, _, _, _, _, e => by cases e
  | i :: is, v :: vs, us, σ, σ', σc, Hs, A, r, n, f, e => by
    cases r with
    | cons r rs =>
      rename_i u us
      cases n with
      | cons hn n ap =>
        simp only [R.setN] at e
        split at e
        · rename_i hc
          obtain ⟨hi, hp⟩ := hc
          have A1 := A.set hi hp r fun xs a e1 e2 => by
            subst e1; subst e2
            obtain ⟨g1, g2⟩ := f xs a (by rw [List.zip_cons_cons]; exact List.mem_cons_self)
            exact ⟨g1, fun j ys _ => g2 j ys⟩
          show At K cls b0 H0 b h H σ' (setC is us (σc.set i (some u)))
          refine At.setN A1 rs n (fun ys a q => ?_) e
          obtain ⟨g1, g2⟩ := f ys a (by rw [List.zip_cons_cons]; exact List.mem_cons_of_mem _ q)
          refine ⟨g1, fun j zs ej => ?_⟩
          by_cases hj : i = j
          · subst hj
            rw [List.getElem?_set_self hi] at ej
            cases ej
            rw [List.getElem?_set_self (by rw [← A.s.len]; exact hi)]
            obtain ⟨c, ws, rfl, _⟩ := r
            intro z
            cases z
            exact ap zs a a rfl rfl ys q rfl
          · rw [List.getElem?_set_ne hj] at ej ⊢
            exact g2 j zs ej
        · cases e
theorem setN_len : ∀ {ts : List Nat} {vs : List AV} {σ σ' : AS}, R.setN ts vs σ = some σ' → ts.length = vs.length
  | [], [], _, _, _ => rfl
  | [], _ :: _, _, _, e => by cases e
  | _ :: _, [], _, _, e => by cases e
  | i :: is, v :: vs, σ, σ', e => by
    simp only [R.setN] at e
    split at e
    · simp [setN_len e]
    · cases e
end
/-! ### fields as targets -/
def chkFs (Z : Stat) (sc : Scope) : List (Nat × Str × List Nat) → List Expr → Bool
  | [], [] => true
  | (i, f, cs) :: ts, .Attribute (.Name x _) g _ :: xs => decide (Z.N[i]? = some x) && vis sc x && nmOk x && decide (f = g) && cs.all (fun c => match Z.ci[c]? with
    | some i => i.attrs.contains f
    | none => false) && chkFs Z sc ts xs
  | _, _ => false
def gFlds (K : PySem.W.Frag) (cls : Nat → Addr) (ts : List (Nat × Str × List Nat)) : TGs := fun us σc H Q => ∃ b h σ vs h', Rep K cls b h H ∧ Sr K b H σ σc ∧ RelAs K b H vs us ∧ setFs ts vs σ h = some h' ∧ ∀ H', Ext b H b H' → Rep K cls b h' H' → Q σc H'
section
variable {Z : Stat} {cls : Nat → Addr} {cl : Cl} {CX : CXT}
theorem chkFs_as {sc : Scope} : ∀ {ts : List (Nat × Str × List Nat)} {xs : List Expr}, chkFs Z sc ts xs = true → ∀ env : Env, (assignEach xs env).length = xs.length ∧ (assignEach xs env).findIdx? (·.1) = none
  | [], [], _, _ => ⟨rfl, rfl⟩
  | [], _ :: _, h, _ => by cases h
  | _ :: _, [], h, _ => by cases h
  | (i, f, cs) :: is, x :: xs, h, env => by
    cases x with
    | Attribute o g p =>
      cases o with
      | Name y q =>
        simp only [chkFs, Bool.and_eq_true] at h
        obtain ⟨h1, h2⟩ := chkFs_as h.2 env
        have e : assignEach (.Attribute (.Name y q) g p :: xs) env = (false, assign (.Attribute (.Name y q) g p) env) :: assignEach xs env := rfl
        rw [e]
        exact ⟨by simp [h1], by simp [List.findIdx?_cons, h2]⟩
      | _ => cases h
    | _ => cases h
theorem setFs_len : ∀ {ts : List (Nat × Str × List Nat)} {vs : List AV} {σ : AS} {h h' : AH}, setFs ts vs σ h = some h' → vs.length = ts.length
  | [], [], _, _, _, _ => rfl
  | [], _ :: _, _, _, _, e => by cases e
  | _ :: _, [], _, _, _, e => by cases e
  | (i, f, cs) :: ts, v :: vs, σ, h, h', e => by
    simp only [setFs] at e
    split at e
    · split at e
      · split at e
        · simp [setFs_len e]
        · cases e
      · cases e
    · cases e
theorem chkFs_len {sc : Scope} : ∀ {ts : List (Nat × Str × List Nat)} {xs : List Expr}, chkFs Z sc ts xs = true → ts.length = xs.length
  | [], [], _ => rfl
  | [], _ :: _, h => by cases h
  | _ :: _, [], h => by cases h
  | (i, f, cs) :: is, x :: xs, h => by
    cases x with
    | Attribute o g p =>
      cases o with
      | Name y q =>
        simp only [chkFs, Bool.and_eq_true] at h
        simp [chkFs_len h.2]
      | _ => cases h
    | _ => cases h
theorem soundFs {E : XK} {X : Cx} {sc : Scope} (c : Cok Z cls cl CX E X sc) : ∀ (ts : List (Nat × Str × List Nat)) (xs : List Expr), chkFs Z sc ts xs = true → PGs X xs (gFlds X.K cls ts)
  | [], [], _ => by
    refine PGs.mono pgs_nil fun us σc H Q q => ?_
    obtain ⟨b, h, σ, vs, h', R, S, r, e, k⟩ := q
    cases vs with
    | nil => cases r; cases e; exact ⟨rfl, k H (Ext.refl _ _) R⟩
    | cons v vs => cases e
  | [], _ :: _, h => by cases h
  | _ :: _, [], h => by cases h
  | (i, f, cs) :: ts, x :: xs, h => by
    cases x with
    | Attribute o g p =>
      cases o with
      | Name y q =>
        simp only [chkFs, Bool.and_eq_true, decide_eq_true_eq] at h
        obtain ⟨⟨⟨⟨⟨h1, h2⟩, h3⟩, rfl⟩, h4⟩, h5⟩ := h
        refine PGs.mono (pgs_cons (pg_fld (pe_var (i := i) (by rw [c.hN]; exact h1) (by rw [c.hsc]; exact vis_of h2) (nm1 h3) (nm2 h3))) (soundFs c ts xs h5) rfl) fun us σc H Q q => ?_
        obtain ⟨b, ah, σ, vs, h', R, S, r, e, k⟩ := q
        cases vs with
        | nil => cases e
        | cons v vs =>
          cases r with
          | cons r rs =>
            rename_i u us
            simp only [setFs] at e
            split at e
            · rename_i x ex
              split at e
              · rename_i kx
                cases e1 : setFldV ah x f cs v with
                | none => rw [e1] at e; cases e
                | some h1' =>
                  rw [e1] at e
                  obtain ⟨w, ew, rw_⟩ := S.rel i x ex
                  obtain ⟨a, k', dx, gs, ⟨hc, _⟩, rfl, eH, hl, x4, R4⟩ := setFld_step R rw_ (RelT.of r) e1
                  have qq := List.all_eq_true.mp h4 k' (by simpa using hc)
                  cases q2 : Z.ci[k']? with
                  | none => rw [q2] at qq; cases qq
                  | some ii =>
                    rw [q2] at qq
                    have ok := c.clsok k' ii q2
                    refine ⟨u, us, rfl, .ref a, ew, a, _, dx, gs, rfl, eH, ok.cl, ok.at' f (by simpa using qq), hl, b, h1', σ, vs, h', R4, S.mono R.nf x4, rs.mono R.nf x4, e, fun H' x5 R5 => k H' (x4.trans x5) R5⟩
              · cases e
            · cases e
      | _ => cases h
    | _ => cases h
end
/-! ### the check of statements -/
def notTup : Expr → Bool
  | .Tuple _ _ _ => false
  | _ => true
/-- x = [..]: whether the list goes straight to the name -/
def swLc (sc : Scope) (x : Str) (p : Pos) (v : Expr) : Bool := match v with
  | .ListComp _ _ scope pos => decide (sc.names.lookup x = some .local) && (p.line == pos.line) && !(scope.names.any fun (n, k) => n == x && (k == .local || k == .cell))
  | _ => false
mutual
def chkS (Z : Stat) (sc : Scope) : S → Stmt → Bool
  | .never, _ => true
  | .pass, .Pass _ => true
  | .brk, .Break _ => true
  | .cont, .Continue _ => true
  | .retN, .Return none _ => true
  | .ret e, .Return (some v) _ => chkE Z sc e v
  | .expr e, .Expr v _ => chkE Z sc e v && (match v with | .ListComp _ _ _ _ => false | _ => true)
  | .set i e, .Assign [.Name x _] v _ => decide (Z.N[i]? = some x) && loc sc x && chkE Z sc e v
  | .asg t e, .Assign [.Tuple ts k p] v _ => chkG Z sc t (.Tuple ts k p) && chkE Z sc e v && notTup v
  | .par ts es, .Assign [.Tuple xs _ _] (.Tuple vs _ _) _ => chkNs Z sc ts xs && chkEs Z sc es vs && decide ts.Nodup && decide (ts.length ≤ 100) && (swp sc xs vs).isSome
  | .aug b i e, .AugAssign (.Name x _) op v _ => decide (Z.N[i]? = some x) && loc sc x && chkE Z sc e v && decide (op = pyOp b)
  | .extOwn i e, .AugAssign (.Name x _) op v _ => decide (Z.N[i]? = some x) && loc sc x && chkE Z sc e v && decide (op = .Add)
  | .augIx b o i e, .AugAssign (.Subscript x y _) op v _ => chkE Z sc o x && chkE Z sc i y && chkE Z sc e v && decide (op = pyOp b)
  | .asgF ts e, .Assign [.Tuple xs _ _] v _ => chkFs Z sc ts xs && chkE Z sc e v && (match v with
    | .Tuple vs _ _ => decide (swp sc xs vs = some false) && (vs.all fun | .Starred .. => false | _ => true)
    | _ => true)
  | .setIx o i e, .Assign [.Subscript x y _] v _ => chkE Z sc o x && chkE Z sc i y && chkE Z sc e v
  | .setFld o f cs e, .Assign [.Attribute x g _] v _ => decide (f = g) && chkE Z sc o x && chkE Z sc e v && cs.all (fun c => match Z.ci[c]? with
    | some i => i.attrs.contains f
    | none => false)
  | .augFld b o f cs e, .AugAssign (.Attribute x g _) op v _ => decide (f = g) && decide (op = pyOp b) && chkE Z sc o x && chkE Z sc e v && cs.all (fun c => match Z.ci[c]? with
    | some i => i.attrs.contains f
    | none => false)
  | .dput d k e, .Assign [.Subscript x y _] v _ => chkE Z sc d x && chkE Z sc k y && chkE Z sc e v
  | .setOwn j i e, .Assign [.Subscript (.Name x _) y _] v _ => decide (Z.N[j]? = some x) && vis sc x && nmOk x && chkE Z sc i y && chkE Z sc e v
  | .appOwn j e, .Expr (.Call (.Attribute (.Name x _) m ap) [v] [] cp) _ => decide (Z.N[j]? = some x) && vis sc x && nmOk x && decide (m = ("append" : Str)) && (ap.endLine == cp.line) && chkE Z sc e v
  | .ifs c a b, .If t x y _ => chkT Z sc c t && chkSs Z sc a x && chkSs Z sc b y
  | .fore t it b, .For tg iter body [] _ => chkI Z sc it iter tg && chkG Z sc t tg && chkSs Z sc b body
  | .whil c b, .While t body [] _ => chkT Z sc c t && chkSs Z sc b body
  | _, _ => false
def chkSs (Z : Stat) (sc : Scope) : Ss → List Stmt → Bool
  | .nil, [] => true
  | .cons s r, xs => match s with
    | .frz _ => chkSs Z sc r xs
    | .pub _ => chkSs Z sc r xs
    | s => match xs with
      | [] => false
      | x :: xs => chkS Z sc s x && chkSs Z sc r xs
  | _, _ => false
end
end R

end

section
set_option Elab.async false
set_option linter.all false
/-! The runner, part L: every checked statement is sound. -/
namespace R
open PySem PySem.Spec L2
section
variable {Z : Stat} {cls : Nat → Addr} {cl : Cl} {CX : CXT} {W : Nat}
theorem chkEs_nostar {sc : Scope} : ∀ {es : Es} {xs : List Expr}, chkEs Z sc es xs = true → (xs.any fun | .Starred .. => true | _ => false) = false
  | .nil, [], _ => rfl
  | .nil, _ :: _, h => by cases h
  | .cons _ _, [], h => by cases h
  | .cons e es, x :: xs, h => by
    simp only [chkEs, Bool.and_eq_true] at h
    rw [List.any_cons, chkEs_nostar h.2, Bool.or_false]
    cases x with
    | Starred v p => cases e <;> cases h.1
    | _ => rfl
theorem sw_false {v : Expr} {x : Str} {p : Pos} {l : Nat} {env : Env} {sc : Scope} {e : R.E} (hsc : env.scope = sc) (hk : sc.kind = .function) (hc : chkE Z sc e v = true) (h : swLc sc x p v = false) : swapsWith v (some (.Name x p)) l env = pure false := by
  subst hsc
  cases v with
  | ListComp elt gens scope pos =>
    show pure (env.blockKind == .function && env.kindOf x == some .local && p.line == pos.line && !(scope.names.any fun (n, k) => n == x && (k == .local || k == .cell))) = pure false
    have hb : env.blockKind = .function := by unfold Env.blockKind; rw [hk]; rfl
    rw [hb]
    unfold swLc at h
    congr 1
    rw [← h]
    have e1 : (env.kindOf x == some NameKind.local) = decide (env.scope.names.lookup x = some .local) := by
      show (env.scope.names.lookup x == some NameKind.local) = _
      cases hh : env.scope.names.lookup x with
      | none => rfl
      | some k => cases k <;> rfl
    rw [e1]
    rfl
  | SetComp _ _ _ _ => cases e <;> cases hc
  | DictComp _ _ _ _ _ => cases e <;> cases hc
  | _ => rfl
theorem pget_list {X : Cx} : PGet X (rIxL X.K) := by
  intro pins s σ H x y v u Q I rx ry h
  obtain ⟨p, xs, i, z, rfl, rfl, hq, he, q⟩ := h
  cases rx
  obtain ⟨t, rfl⟩ := ry
  obtain ⟨its, r, pl, hz⟩ := I.list hq
  obtain ⟨j, h1, h2, h3, h4, h5⟩ := atI_get he
  obtain ⟨w, ew, rw'⟩ := r.get h2
  have hl := r.length
  have hn := line63
  have fin : EP X pins σ Q w s := ⟨z, H, I, rw', q⟩
  by_cases h0 : 0 ≤ i
  · have hj : i.toNat = j := by
      rw [seqIndex_of h0 h5] at h1
      exact Option.some.inj h1
    exact wpAny_getItem_list pl.isList h0 (by omega) (by rw [hj]; simpa using ew) fin
  · have hj : (i + (its.toArray.size : Int)).toNat = j := by
      rw [seqIndex_neg (by omega) h4] at h1
      rw [List.size_toArray, ← hl]
      exact Option.some.inj h1
    exact wpAny_getItem_list_neg pl.isList (by omega) (by rw [List.size_toArray] <;> omega) (by omega) (by rw [hj]; simpa using ew) fin
/-- the turns of a for -/
theorem for_turns {K : PySem.W.Frag} {E : XK} {b0 b1 : Ab} {H0 H1 : Hp} {h1 : AH} {σ : AS} {σc : St} {D : Ends} {t : Tg} {w : Wk} {J : L2.It} {fb : AS → AH → Res Fl}
    (A : At K cls b0 H0 b1 h1 H1 σ σc) (hJ : WkJ K cls w J b1 H1) (hst : w.st = true) (s : SimS K cls b0 H0 b1 H1 (forGo w.item (fun v σ h => (ofOpt (setT t v σ) h).bind fun σ' h' => fb σ' h') w.n 0 σ h1) D E) :
    ∃ W : Nat → Nat → St → Hp → Prop, (∃ m, W 0 m σc H1) ∧ ∀ i m σ H, W i m σ H →
      (J.stop i H ∧ D.nx σ H) ∨ (J.go i H ∧ ∃ N : St → Hp → Prop, (∀ σ' H', N σ' H' → ∃ m', m' < m ∧ W (i + 1) m' σ' H') ∧ ∀ x H', J.yld i H x H' → gR K t x σ H' fun σ2 H2 => tRS K cls E fb { D with nx := N, ct := N, bk := D.nx } σ2 H2) := by
  generalize hturn : (fun v σ h => (ofOpt (setT t v σ) h).bind fun σ' h' => fb σ' h' : AV → AS → AH → Res Fl) = turn at s
  refine ⟨fun i m σc H => ∃ b h σ, At K cls b0 H0 b h H σ σc ∧ WExt b1 H1 b H ∧ SimS K cls b0 H0 b H (forGo w.item turn m i σ h) D E, ⟨w.n, b1, h1, σ, A, WExt.refl _ _, s⟩, ?_⟩
  rintro i m σc H ⟨b, h, σ, A, wx, s⟩
  have tj := hJ.s hst i b h H wx A.R
  have fin : w.item h i = some none → SimS K cls b0 H0 b H (.ok (.nx σ) h) D E → (J.stop i H ∧ D.nx σc H) := fun e s => by
    rw [e] at tj
    exact ⟨tj, s b H σc A (WExt.refl _ _)⟩
  cases m with
  | zero =>
    unfold forGo at s
    cases q : w.item h i with
    | none => rw [q] at s; exact s.elim
    | some o =>
      cases o with
      | none => rw [q] at s; exact .inl (fin q s)
      | some v => rw [q] at s; exact s.elim
  | succ m =>
    unfold forGo at s
    cases q : w.item h i with
    | none => rw [q] at s; exact s.elim
    | some o =>
      cases o with
      | none => rw [q] at s; exact .inl (fin q s)
      | some v =>
        rw [q] at s tj
        obtain ⟨tgo, ty⟩ := tj
        refine .inr ⟨tgo, fun σc H => ∃ b h σ, At K cls b0 H0 b h H σ σc ∧ WExt b1 H1 b H ∧ SimS K cls b0 H0 b H (forGo w.item turn m (i + 1) σ h) D E, fun σ' H' z => ⟨m, Nat.lt_succ_self _, z⟩, fun u H2 hy => ?_⟩
        obtain ⟨b2, x2, R2, rv⟩ := ty u H2 hy
        have A2 := A.go x2 R2
        have et : turn v σ h = ((ofOpt (setT t v σ) h).bind fun σ' h' => fb σ' h') := by rw [← hturn]
        simp only [et] at s
        cases q2 : setT t v σ with
        | none => simp only [q2, ofOpt, Res.bind] at s; exact s.elim
        | some σ2 =>
          simp only [q2, ofOpt, Res.bind] at s
          refine ⟨b2, v, σ, σ2, rv, A2.s.len, q2, fun σc2 up => ⟨b0, H0, b2, h, σ2, A2.upS up, ?_⟩⟩
          have w2 := x2.w A.R.nf
          cases q3 : fb σ2 h with
          | stuck => simp only [q3] at s; exact s.elim
          | exc c h3 => simp only [q3] at s; exact s
          | ok f h3 =>
            simp only [q3] at s
            cases f with
            | nx σ3 => exact fun b3 H3 σc3 A3 w3 => ⟨b3, h3, σ3, A3, wx.trans (w2.trans w3), SimS.later (w2.trans w3) s⟩
            | ct σ3 => exact fun b3 H3 σc3 A3 w3 => ⟨b3, h3, σ3, A3, wx.trans (w2.trans w3), SimS.later (w2.trans w3) s⟩
            | bk σ3 => exact fun b3 H3 σc3 A3 w3 => s b3 H3 σc3 A3 (w2.trans w3)
            | rt v => exact s
theorem while_turns {K : PySem.W.Frag} {E : XK} {b0 b : Ab} {H0 H : Hp} {h : AH} {σ : AS} {σc : St} {D : Ends} {fc : AS → AH → Res Bool} {fb : AS → AH → Res Fl} {n : Nat}
    (A : At K cls b0 H0 b h H σ σc) (s : SimS K cls b0 H0 b H (whileGo fc fb n σ h) D E) : tWhile (tRT K cls E fc) (tRS K cls E fb) D σc H := by
  refine ⟨fun m σc H => ∃ b h σ, At K cls b0 H0 b h H σ σc ∧ SimS K cls b0 H0 b H (whileGo fc fb m σ h) D E, ⟨n, b, h, σ, A, s⟩, ?_⟩
  rintro m σc H ⟨b, h, σ, A, s⟩
  cases m with
  | zero => exact s.elim
  | succ m =>
    unfold whileGo at s
    refine st_T A s fun b1 h1 H1 c A1 x1 s1 => ?_
    cases c with
    | false => rw [if_neg Bool.false_ne_true]; exact s1 b1 H1 σc A1 (WExt.refl _ _)
    | true =>
      rw [if_pos rfl]
      refine ⟨fun σc H => ∃ b h σ, At K cls b0 H0 b h H σ σc ∧ SimS K cls b0 H0 b H (whileGo fc fb m σ h) D E, fun σ' H' z => ⟨m, Nat.lt_succ_self _, z⟩, b0, H0, b1, h1, σ, A1, ?_⟩
      simp only at s1
      cases q3 : fb σ h1 with
      | stuck => simp only [q3, Res.bind] at s1; exact s1.elim
      | exc c h3 => simp only [q3, Res.bind] at s1; exact s1
      | ok f h3 =>
        simp only [q3, Res.bind] at s1
        cases f with
        | nx σ3 => exact fun b3 H3 σc3 A3 w3 => ⟨b3, h3, σ3, A3, SimS.later w3 s1⟩
        | ct σ3 => exact fun b3 H3 σc3 A3 w3 => ⟨b3, h3, σ3, A3, SimS.later w3 s1⟩
        | bk σ3 => exact fun b3 H3 σc3 A3 w3 => s1 b3 H3 σc3 A3 w3
        | rt v => exact s1
theorem set_step {K : PySem.W.Frag} {E : XK} {b0 b b1 : Ab} {H0 H H1 : Hp} {h h1 : AH} {σ : AS} {σc : St} {D : Ends} {i : Nat} {v : AV} {u : V} (A : At K cls b0 H0 b h H σ σc) (A1 : At K cls b0 H0 b1 h1 H1 σ σc) (ru : RelT K b1 H1 v u) (hn : ∀ xs a, v = .own xs → u = .ref a → H a = none)
    (s1 : SimS K cls b0 H0 b1 H1 (if isPeek v then .stuck else if i < σ.length then .ok (.nx (σ.set i (some v))) h1 else .stuck) D E) : D.nx (σc.set i (some u)) H1 := by
  cases hp : isPeek v with
  | true => rw [hp] at s1; exact s1.elim
  | false =>
    rw [hp] at s1
    by_cases hi : i < σ.length
    · rw [if_neg Bool.false_ne_true, if_pos hi] at s1
      refine s1 b1 H1 _ (A1.set hi hp ru fun xs a e1 e2 => ?_) (WExt.refl _ _)
      have hH := hn xs a e1 e2
      refine ⟨A.x.dom a hH, fun j ys _ ej ec => ?_⟩
      obtain ⟨u', eu', a', zs, ea, _, _, hz, _⟩ := A.s.rel j _ ej
      subst ea
      rw [ec] at eu'; cases eu'
      rw [hH] at hz; cases hz
    · rw [if_neg Bool.false_ne_true, if_neg hi] at s1; exact s1.elim
theorem swpN2 {sc : Scope} {x y : Str} {px py : Pos} (h : (swpN sc [.Name x px, .Name y py]).length = 2) : swpN sc [.Name x px, .Name y py] = [x, y] ∧ sc.names.lookup x = some .local ∧ sc.names.lookup y = some .local := by
  unfold swpN at h ⊢
  simp only [List.head?_cons, Option.map_some, Option.getD_some, Expr.pos, beq_self_eq_true, Bool.and_true, List.filterMap_cons, List.filterMap_nil] at h ⊢
  by_cases h1 : (List.lookup x sc.names == some NameKind.local) = true
  · by_cases h2 : (List.lookup y sc.names == some NameKind.local && py.line == px.line) = true
    · simp only [h1, h2, if_true] at h ⊢
      rw [Bool.and_eq_true] at h2
      exact ⟨trivial, by simpa using h1, by simpa using h2.1⟩
    · simp only [h1, h2, if_true] at h; simp at h
  · simp only [h1] at h
    by_cases h2 : (List.lookup y sc.names == some NameKind.local && py.line == px.line) = true
    · simp only [h2, if_true] at h; simp at h
    · simp only [h2] at h; simp at h
theorem swpN3 {sc : Scope} {x y z : Str} {px py pz : Pos} (h : (swpN sc [.Name x px, .Name y py, .Name z pz]).length = 3) : swpN sc [.Name x px, .Name y py, .Name z pz] = [x, y, z] ∧ sc.names.lookup x = some .local ∧ sc.names.lookup y = some .local ∧ sc.names.lookup z = some .local := by
  unfold swpN at h ⊢
  simp only [List.head?_cons, Option.map_some, Option.getD_some, Expr.pos, beq_self_eq_true, Bool.and_true, List.filterMap_cons, List.filterMap_nil] at h ⊢
  by_cases h1 : (List.lookup x sc.names == some NameKind.local) = true <;> by_cases h2 : (List.lookup y sc.names == some NameKind.local && py.line == px.line) = true <;> by_cases h3 : (List.lookup z sc.names == some NameKind.local && pz.line == px.line) = true <;>
    simp only [h1, h2, h3, if_true] at h ⊢ <;> first | (simp at h; done) | skip
  rw [Bool.and_eq_true] at h2 h3
  exact ⟨trivial, by simpa using h1, by simpa using h2.1, by simpa using h3.1⟩
theorem swp_t {sc : Scope} {ts vs : List Expr} (h : swp sc ts vs = some true) : (ts.length = 2 ∨ ts.length = 3) ∧ vs.length = ts.length ∧ (swpN sc ts).length = ts.length := by
  unfold swp at h
  split at h
  · cases h
  · rename_i h1
    split at h
    · cases h
    · rename_i h2
      rw [Bool.not_eq_true] at h1 h2
      simp only [Bool.or_eq_false_iff, Bool.not_eq_false', bne_eq_false_iff_eq, Bool.or_eq_true, beq_iff_eq] at h1 h2
      exact ⟨h1.1, h1.2, h2.1⟩
/-- the step of names in a row -/
theorem par_step {K : PySem.W.Frag} {E : XK} {b0 b b1 b2 : Ab} {H0 H H1 H2 : Hp} {h h1 : AH} {σ : AS} {σc : St} {D : Ends} {ts : List Nat} {vs : List AV} {us : List V} (A : At K cls b0 H0 b h H σ σc) (A2 : At K cls b0 H0 b2 h1 H2 σ σc) (w : WExt b1 H1 b2 H2)
    (rs : RelTs K b2 H2 vs us) (nn : News H vs us) (s1 : SimS K cls b0 H0 b1 H1 ((ofOpt (setN ts vs σ) h1).bind fun σ' h2 => .ok (.nx σ') h2) D E) : ts.length = us.length ∧ D.nx (setC ts us σc) H2 := by
  cases e : setN ts vs σ with
  | none => rw [e] at s1; exact s1.elim
  | some σ' =>
    rw [e] at s1
    have hl := setN_len e
    refine ⟨by rw [hl]; exact Paired.length rs, s1 b2 H2 _ (A2.setN rs nn (fun ys a q => ?_) e) w⟩
    have hH := nn.new q
    refine ⟨A.x.dom a hH, fun j zs ej ec => ?_⟩
    obtain ⟨u', eu', a', ws, ea, _, _, hz, _⟩ := A.s.rel j _ ej
    subst ea
    rw [ec] at eu'; cases eu'
    rw [hH] at hz; cases hz
theorem relTs_mono {K : PySem.W.Frag} {b b' : Ab} {H H' : Hp} (nf : ∀ a ∈ b.ρ, ¬ b.F a) (x : Ext b H b' H') : ∀ {vs : List AV} {us : List V}, RelTs K b H vs us → RelTs K b' H' vs us
  | _, _, .nil => .nil
  | _, _, .cons r rs => .cons (r.mono nf x) (relTs_mono nf x rs)
mutual
theorem soundS : ∀ (s : S) {E : XK} {X : Cx} {sc : Scope} (c : Cok Z cls cl CX E X sc) (g : Gok X sc) (hk : sc.kind = .function) (x : Stmt), chkS Z sc s x = true → PS X x (tRS X.K cls E (ex cl W s))
  | .never, E, X, sc, c, g, hk, x, h => PS.mono ps_never fun D σc H ⟨b0, H0, b, ah, σ, A, s⟩ => s
  | .pass, E, X, sc, c, g, hk, x, h => by
    cases x with
    | Pass p => exact PS.mono ps_pass fun D σc H ⟨b0, H0, b, ah, σ, A, s⟩ => s b H σc A (WExt.refl _ _)
    | _ => cases h
  | .brk, E, X, sc, c, g, hk, x, h => by
    cases x with
    | Break p => exact PS.mono ps_break fun D σc H ⟨b0, H0, b, ah, σ, A, s⟩ => s b H σc A (WExt.refl _ _)
    | _ => cases h
  | .cont, E, X, sc, c, g, hk, x, h => by
    cases x with
    | Continue p => exact PS.mono ps_continue fun D σc H ⟨b0, H0, b, ah, σ, A, s⟩ => s b H σc A (WExt.refl _ _)
    | _ => cases h
  | .retN, E, X, sc, c, g, hk, x, h => by
    cases x with
    | Return v p =>
      cases v with
      | none => exact PS.mono ps_retN fun D σc H ⟨b0, H0, b, ah, σ, A, s⟩ => s b H _ A.x A.R .non
      | some _ => cases h
    | _ => cases h
  | .ret e, E, X, sc, c, g, hk, x, h => by
    cases x with
    | Return v p =>
      cases v with
      | none => cases h
      | some v =>
        refine PS.mono (ps_ret (soundE e c v h)) fun D σc H ⟨b0, H0, b, ah, σ, A, s⟩ => st_one A s fun b1 h1 H1 v u A1 x1 ru hn s1 => ?_
        cases kp : keepable v with
        | false => simp only [kp] at s1; exact s1.elim
        | true => simp only [kp, if_true] at s1; exact s1 b1 H1 u A1.x A1.R (ru.keep kp)
    | _ => cases h
  | .expr e, E, X, sc, c, g, hk, x, h => by
    cases x with
    | Expr v p =>
      simp only [chkS, Bool.and_eq_true] at h
      refine PS.mono (ps_expr (soundE e c v h.1) (by
        cases v with
        | ListComp _ _ _ _ => cases h.2
        | SetComp _ _ _ _ => cases e <;> cases h.1
        | DictComp _ _ _ _ _ => cases e <;> cases h.1
        | _ => rfl)) fun D σc H ⟨b0, H0, b, ah, σ, A, s⟩ => st_one A s fun b1 h1 H1 v u A1 x1 ru hn s1 => ?_
      exact s1 b1 H1 σc A1 (WExt.refl _ _)
    | _ => cases h
  | .set i e, E, X, sc, c, g, hk, x, h => by
    cases x with
    | Assign ts v pos =>
      rcases ts with _ | ⟨t, _ | ⟨_, _⟩⟩
      · cases h
      · cases t with
        | Name y p =>
          simp only [chkS, Bool.and_eq_true, decide_eq_true_eq] at h
          obtain ⟨⟨h1, h2⟩, h3⟩ := h
          obtain ⟨g1, g2⟩ := g y h2
          have hN : X.N.Nodup := by rw [c.hN]; exact c.nd
          have hi : X.N[i]? = some y := by rw [c.hN]; exact h1
          cases hsw : swLc sc y p v with
          | false =>
            exact PS.mono (ps_set (i := i) hN hi g1 (soundE e c v h3) (sw_false c.hsc hk h3 hsw) g2) fun D σc H ⟨b0, H0, b, ah, σ, A, s⟩ => st_one A s fun b1 h1 H1 v u A1 x1 ru hn s1 => set_step A A1 ru hn s1
          | true =>
            cases v with
            | ListComp elt gens scope pos2 =>
              cases e with
              | comp k t it d e vs =>
                rcases gens with _ | ⟨⟨tg, iter, ifs, as⟩, _ | ⟨_, _⟩⟩
                · cases h3
                · simp only [chkE, Bool.and_eq_true, decide_eq_true_eq] at h3
                  obtain ⟨⟨⟨⟨⟨⟨has, q1⟩, q2⟩, q3⟩, q4⟩, q5⟩, q6⟩ := h3
                  subst has
                  have e0 := c.hsc
                  subst e0
                  unfold swLc at hsw
                  simp only [Bool.and_eq_true, decide_eq_true_eq, Bool.not_eq_true'] at hsw
                  obtain ⟨⟨w1, w2⟩, w3⟩ := hsw
                  have main := ps_setLc (X := X) (i := i) (y := y) (py := p) (elt := elt) (tg := tg) (iter := iter) (ifs := ifs) (scope := scope) (own := ownOf Z vs) (pos := pos2) (spos := pos) (wi := tRI X.K cls E (evI cl it)) (g := gR X.K t) (tt := tRT X.K cls E0 (evc cl d)) (te := tR X.K cls E0 (ev cl e)) c.calm hN hi w1
                    (sw_true hk w1 w2 w3) (soundI it c iter tg q1) (by rw [c.hN]; exact blkOk_by q5)
                    (fun s H C cl' fp => soundG (X := X.blk s H scope (compEnvC scope cl' C X.env) fp) c.hN c.nd c.calm (gok_blk s H scope C cl' fp) t tg q2)
                    (fun s H C cl' fp => soundTo d (c.blk s H scope C cl' fp) ifs q3) (fun s H C cl' fp => soundE e (c.blk s H scope C cl' fp) elt q4)
                    (by cases it with
                      | each e' => exact chkE_set q1 _
                      | _ => cases iter <;> first | (intro _; rfl) | cases q1)
                  rw [own_snd] at main
                  exact PS.mono main fun D σc H ⟨b0, H0, b, ah, σ, A, s⟩ => comp_tLc q6 (st_one A s fun b1 h1 H1 v u A1 x1 ru hn s1 => set_step A A1 ru hn s1)
                · cases h3
              | _ => cases h3
            | _ => cases hsw
        | _ => cases h
      · cases t <;> cases h
    | _ => cases h
  | .asg t e, E, X, sc, c, g, hk, x, h => by
    cases x with
    | Assign ts v pos =>
      rcases ts with _ | ⟨tg, _ | ⟨_, _⟩⟩
      · cases h
      · cases tg with
        | Tuple es k p =>
          simp only [chkS, Bool.and_eq_true] at h
          obtain ⟨⟨h1, h2⟩, h3⟩ := h
          refine PS.mono (ps_asg (soundE e c v h2) (soundG c.hN c.nd c.calm g t _ h1) (by
            cases v with
            | SetComp _ _ _ _ => cases e <;> cases h2
            | DictComp _ _ _ _ _ => cases e <;> cases h2
            | _ => rfl) (by
            cases v with
            | Tuple _ _ _ => cases h3
            | _ => rfl) rfl) fun D σc H ⟨b0, H0, b, ah, σ, A, s⟩ => st_one A s fun b1 h1 H1 v u A1 x1 ru hn s1 => ?_
          cases e1 : setT t v σ with
          | none => rw [e1] at s1; exact s1.elim
          | some σ' =>
            rw [e1] at s1
            have kp : keepable v = true := by
              cases t with
              | nm i =>
                simp only [setT] at e1
                split at e1
                · rename_i hc
                  rw [Bool.and_eq_true] at hc
                  exact hc.1
                · cases e1
              | tp ts => cases v <;> first | rfl | cases e1
            exact ⟨b1, v, σ, σ', ru.keep kp, A1.s.len, e1, fun σc' up => s1 b1 H1 σc' (A1.upS up) (WExt.refl _ _)⟩
        | _ => cases h
      · cases tg <;> cases h
    | _ => cases h
  | .par ts es, E, X, sc, c, g, hk, x, h => by
    cases x with
    | Assign tgs v pos =>
      rcases tgs with _ | ⟨tg, _ | ⟨_, _⟩⟩
      · cases h
      · cases tg with
        | Tuple xs kt pt =>
          cases v with
          | Tuple vs k2 pt2 =>
            simp only [chkS, Bool.and_eq_true, decide_eq_true_eq] at h
            obtain ⟨⟨⟨⟨h1, h2⟩, h3⟩, h4⟩, h5⟩ := h
            have e0 := c.hsc
            subst e0
            have hN : X.N.Nodup := by rw [c.hN]; exact c.nd
            have hlen := chkNs_len h1
            cases hsw : swp X.env.scope xs vs with
            | none => rw [hsw] at h5; cases h5
            | some k =>
              have hst := swp_ok (kt := kt) (k2 := k2) (pt := pt) (pt2 := pt2) hk (chkEs_nostar h2) hsw
              cases k with
              | false =>
                obtain ⟨l1, l2⟩ := chkNs_as h1 X.env
                refine PS.mono (ps_asg (pe_tup (soundEn es c vs h2)) (pg_tup c.calm (soundNs c.hN c.nd g ts xs h1) l1 l2) rfl hst rfl) fun D σc H ⟨b0, H0, b, ah, σ, A, s⟩ => st_N A s fun b1 h1 H1 vs us A1 x1 rs nn s1 => ?_
                have hl : us.length = ts.length := by
                  cases e : setN ts vs σ with
                  | none => rw [e] at s1; exact s1.elim
                  | some σ' => rw [setN_len e]; exact (Paired.length rs).symm
                refine ⟨by rw [hl]; exact Nat.le_trans h4 (by decide), fun p hp => ?_⟩
                obtain ⟨x2, R2, _, _⟩ := A1.R.ow hp (.tup us)
                obtain ⟨_, q⟩ := par_step A (A1.go x2 R2) (x2.w A1.R.nf) (relTs_mono A1.R.nf x2 rs) nn s1
                exact ⟨p, us, rfl, SqT.of upd_same, hl.trans hlen, gNames_of hl q⟩
              | true =>
                obtain ⟨t1, t2, t3⟩ := swp_t hsw
                rcases t1 with t1 | t1
                · rcases xs with _ | ⟨n1, _ | ⟨n2, _ | ⟨_, _⟩⟩⟩ <;> first | (simp at t1; done) | skip
                  rcases ts with _ | ⟨i, _ | ⟨j, _ | ⟨_, _⟩⟩⟩ <;> first | (simp at hlen; done) | skip
                  rcases vs with _ | ⟨v1, _ | ⟨v2, _ | ⟨_, _⟩⟩⟩ <;> first | (simp at t2; done) | skip
                  cases n1 <;> first | (cases h1; done) | skip
                  cases n2 <;> first | (simp only [chkNs, Bool.and_eq_true] at h1; cases h1.2; done) | skip
                  rename_i x px y py
                  simp only [chkNs, Bool.and_eq_true, decide_eq_true_eq] at h1
                  obtain ⟨⟨a1, a2⟩, ⟨a3, a4⟩, _⟩ := h1
                  obtain ⟨e1, e2, e3⟩ := swpN2 t3
                  rw [e1] at hst
                  refine PS.mono (ps_par c.calm hN (by rw [c.hN]; exact a1) (by rw [c.hN]; exact a3) (by simpa using h3) e2 e3 (soundEn es c _ h2) hst) fun D σc H ⟨b0, H0, b, ah, σ, A, s⟩ => st_N A s fun b1 h1 H1 vs us A1 x1 rs nn s1 => ?_
                  obtain ⟨hl, q⟩ := par_step A A1 (WExt.refl _ _) rs nn s1
                  rcases us with _ | ⟨u1, _ | ⟨u2, _ | ⟨_, _⟩⟩⟩ <;> first | (simp at hl; done) | skip
                  exact ⟨u1, u2, rfl, q⟩
                · rcases xs with _ | ⟨n1, _ | ⟨n2, _ | ⟨n3, _ | ⟨_, _⟩⟩⟩⟩ <;> first | (simp at t1; done) | skip
                  rcases ts with _ | ⟨i, _ | ⟨j, _ | ⟨l, _ | ⟨_, _⟩⟩⟩⟩ <;> first | (simp at hlen; done) | skip
                  rcases vs with _ | ⟨v1, _ | ⟨v2, _ | ⟨v3, _ | ⟨_, _⟩⟩⟩⟩ <;> first | (simp at t2; done) | skip
                  cases n1 <;> first | (cases h1; done) | skip
                  cases n2 <;> first | (simp only [chkNs, Bool.and_eq_true] at h1; cases h1.2; done) | skip
                  cases n3 <;> first | (simp only [chkNs, Bool.and_eq_true] at h1; cases h1.2.2; done) | skip
                  rename_i x px y py z pz
                  simp only [chkNs, Bool.and_eq_true, decide_eq_true_eq] at h1
                  obtain ⟨⟨a1, a2⟩, ⟨a3, a4⟩, ⟨a5, a6⟩, _⟩ := h1
                  obtain ⟨e1, e2, e3, e4⟩ := swpN3 t3
                  rw [e1] at hst
                  have h3 : (i ≠ j ∧ i ≠ l) ∧ j ≠ l := by simpa using h3
                  refine PS.mono (ps_par3 c.calm hN (by rw [c.hN]; exact a1) (by rw [c.hN]; exact a3) (by rw [c.hN]; exact a5) h3.1.1 h3.1.2 h3.2 e2 e3 e4 (soundEn es c _ h2) hst) fun D σc H ⟨b0, H0, b, ah, σ, A, s⟩ => st_N A s fun b1 h1 H1 vs us A1 x1 rs nn s1 => ?_
                  obtain ⟨hl, q⟩ := par_step A A1 (WExt.refl _ _) rs nn s1
                  rcases us with _ | ⟨u1, _ | ⟨u2, _ | ⟨u3, _ | ⟨_, _⟩⟩⟩⟩ <;> first | (simp at hl; done) | skip
                  exact ⟨u1, u2, u3, rfl, q⟩
          | _ => cases h
        | _ => cases h
      · cases tg <;> first | (cases h; done) | (cases v <;> cases h)
    | _ => cases h
  | .aug b i e, E, X, sc, c, g, hk, x, h => by
    cases x with
    | AugAssign tg op v pos =>
      cases tg with
      | Name y p =>
        simp only [chkS, Bool.and_eq_true, decide_eq_true_eq] at h
        obtain ⟨⟨⟨h1, h2⟩, h3⟩, h4⟩ := h
        obtain ⟨g1, g2⟩ := g y h2
        have hip : PIp X op (rIp b) := by
          subst h4
          exact op_ip b
        refine PS.mono (ps_aug (i := i) (by rw [c.hN]; exact c.nd) (by rw [c.hN]; exact h1) g1 (soundE e c v h3) hip g2) fun D σc H ⟨b0, H0, b', ah, σ, A, s⟩ => ?_
        simp only [ex] at s
        split at s
        · rename_i x e1
          obtain ⟨u, eu, r⟩ := A.s.rel i _ e1
          cases r
          refine ⟨.int x, eu, st_one A s fun b1 h1 H1 v u A1 x1 ru hn s1 => ?_⟩
          cases v with
          | int y =>
            cases ru
            cases e2 : iopI b x y with
            | none => simp only [e2] at s1; exact s1.elim
            | some z =>
              simp only [e2] at s1
              exact iop_step e2 (s1 b1 H1 _ (A1.setK (List.getElem?_eq_some_iff.mp e1).1 rfl (.int _)) (WExt.refl _ _))
          | _ => exact s1.elim
        · exact s.elim
      | _ => cases h
    | _ => cases h
  | .extOwn j e, E, X, sc, c, g, hk, x, h => by
    cases x with
    | AugAssign tg op v pos =>
      cases tg with
      | Name y p =>
        simp only [chkS, Bool.and_eq_true, decide_eq_true_eq] at h
        obtain ⟨⟨⟨h1, h2⟩, h3⟩, h4⟩ := h
        obtain ⟨g1, g2⟩ := g y h2
        subst h4
        refine PS.mono (ps_aug (i := j) (by rw [c.hN]; exact c.nd) (by rw [c.hN]; exact h1) g1 (soundE e c v h3) ip_cat g2) fun D σc H ⟨b0, H0, b', ah, σ, A, s⟩ => ?_
        simp only [ex] at s
        split at s
        · rename_i xs0 e1
          obtain ⟨w, ew, a, ys, ea, _, _, hH, rr⟩ := A.s.rel j _ e1
          subst ea
          refine ⟨.ref a, ew, st_one A s fun b1 h1 H1 v u A1 x1 ru hn s1 => ?_⟩
          rw [e1] at s1
          cases e2 : rdM h1 v with
          | none => simp only [e2] at s1; exact s1.elim
          | some zs =>
            simp only [e2] at s1
            split at s1
            · rename_i hc
              obtain ⟨w', ew', a', ys, ea, _, _, hH, rr⟩ := A1.s.rel j _ e1
              subst ea
              rw [ew] at ew'; cases ew'
              obtain ⟨c', ws, rfl, hB, rz⟩ := rdM_lst A1.R ru e2
              obtain ⟨A3, w3⟩ := A1.own e1 ew (rr.append rz)
              have hj : j < σc.length := (List.getElem?_eq_some_iff.mp ew).1
              refine ⟨a, c', ys, ws, rfl, rfl, hH, hB, by rw [← rr.length, ← rz.length]; exact lim_le hc, ?_⟩
              have eset : σc.set j (some (.ref a)) = σc := by
                apply List.ext_getElem?
                intro m
                by_cases hm : j = m
                · subst hm
                  rw [List.getElem?_set_self hj, ew]
                · rw [List.getElem?_set_ne hm]
              show D.nx (σc.set j (some (.ref a))) _
              rw [eset]
              exact s1 _ _ σc A3 w3
            · exact s1.elim
        · exact s.elim
      | _ => cases h
    | _ => cases h
  | .augIx b o i e, E, X, sc, c, g, hk, x, h => by
    cases x with
    | AugAssign tg op v pos =>
      cases tg with
      | Subscript y z p =>
        simp only [chkS, Bool.and_eq_true, decide_eq_true_eq] at h
        obtain ⟨⟨⟨h1, h2⟩, h3⟩, h4⟩ := h
        subst h4
        refine PS.mono (ps_augS (soundE o c y h1) (soundE i c z h2) pget_list (soundE e c v h3) (op_ip b) set_list (by
          intro ov iv new
          cases z with
          | Slice _ _ _ _ => cases i <;> cases h2
          | _ => rfl)) fun D σc H ⟨b0, H0, b', ah, σ, A, s⟩ => st_one A s fun b1 h1 H1 x u A1 x1 ru hn s1 => st_one A1 s1 fun b2 h2 H2 k w A2 x2 rk hn2 s2 => ?_
        cases x with
        | ref n =>
          cases k with
          | int k =>
            cases rk
            simp only at s2
            cases e1 : h2[n]? with
            | none => simp only [e1] at s2; exact s2.elim
            | some ob =>
              simp only [e1] at s2
              cases ob with
              | lst xs =>
                simp only at s2
                cases e2 : atI xs k with
                | none => simp only [e2] at s2; exact s2.elim
                | some q =>
                  simp only [e2] at s2
                  cases q with
                  | int a =>
                    simp only at s2
                    have ru2 := ru.mono A1.R.nf x2
                    obtain ⟨p', hp', eu⟩ : ∃ p', b2.ρ[n]? = some p' ∧ u = .ref p' := by cases ru2 with | ref hq => exact ⟨_, hq, rfl⟩
                    subst eu
                    obtain ⟨ys, ey, rr⟩ := A2.R.ob n _ p' e1 hp'
                    have e' : ∃ z, atI ys k = some z ∧ RelA X.K b2 H2 (.int a) z := by
                      unfold atI at e2 ⊢
                      rw [← rr.length]
                      cases j : ixN xs.length k with
                      | none => rw [j] at e2; cases e2
                      | some m =>
                        rw [j] at e2
                        exact rr.get e2
                    obtain ⟨z', hz, rz⟩ := e'
                    cases rz
                    refine ⟨p', ys, k, .int a, rfl, rfl, SqL.of ey, hz, st_one A2 s2 fun b3 h3 H3 w wv A3 x3 rw_ hn3 s3 => ?_⟩
                    cases w with
                    | int m =>
                      cases rw_
                      simp only at s3
                      cases e3 : iopI b a m with
                      | none => simp only [e3] at s3; exact s3.elim
                      | some r =>
                        simp only [e3, ofOpt, Res.bind] at s3
                        refine iop_step e3 ?_
                        cases e4 : h3[n]? with
                        | none => simp only [e4] at s3; exact s3.elim
                        | some ob3 =>
                          simp only [e4] at s3
                          cases ob3 with
                          | lst ts =>
                            simp only at s3
                            cases e5 : ixN ts.length k with
                            | none => simp only [e5] at s3; exact s3.elim
                            | some j =>
                              simp only [e5] at s3
                              have hp3 : b3.ρ[n]? = some p' := by
                                obtain ⟨t, et⟩ := x3.pre
                                rw [← et, List.getElem?_append_left (List.getElem?_eq_some_iff.mp hp').1]
                                exact hp'
                              obtain ⟨us, eus, rus⟩ := A3.R.ob n _ p' e4 hp3
                              obtain ⟨x4, R4⟩ := A3.R.wr (o' := .lst (ts.set j (.int r))) (ho := .lst (us.set j (.int r))) hp3 eus fun H' x' => ⟨_, rfl, (rus.set (.int r) j).mono A3.R.nf x'⟩
                              exact ⟨p', us, k, j, rfl, rfl, eus, by rw [← rus.length]; exact e5, s3 _ _ σc (A3.go x4 R4) (x4.w A3.R.nf)⟩
                          | _ => exact s3.elim
                    | _ => exact s3.elim
                  | _ => exact s2.elim
              | _ => exact s2.elim
          | _ => exact s2.elim
        | _ => exact s2.elim
      | _ => cases h
    | _ => cases h
  | .asgF ts e, E, X, sc, c, g, hk, x, h => by
    cases x with
    | Assign tgs v pos =>
      rcases tgs with _ | ⟨tg, _ | ⟨_, _⟩⟩
      · cases h
      · cases tg with
        | Tuple xs kt pt =>
          simp only [chkS, Bool.and_eq_true] at h
          obtain ⟨⟨h1, h2⟩, h3⟩ := h
          have e0 := c.hsc
          subst e0
          obtain ⟨l1, l2⟩ := chkFs_as h1 X.env
          refine PS.mono (ps_asg (soundE e c v h2) (pg_tup c.calm (soundFs c ts xs h1) l1 l2) (by
            cases v with
            | SetComp _ _ _ _ => cases e <;> cases h2
            | DictComp _ _ _ _ _ => cases e <;> cases h2
            | _ => rfl) (by
            cases v with
            | Tuple vs k2 pt2 =>
              simp only [Bool.and_eq_true, decide_eq_true_eq] at h3
              exact swp_ok (c := false) hk (by
                rw [List.any_eq_false]
                intro q hq
                have := List.all_eq_true.mp h3.2 q hq
                cases q <;> first | (cases this; done) | simp) h3.1
            | _ => rfl) rfl) fun D σc H ⟨b0, H0, b, ah, σ, A, s⟩ => st_one A s fun b1 h1 H1 v u A1 x1 ru hn s1 => ?_
          cases v with
          | tup vs =>
            simp only at s1
            cases e1 : setFs ts vs σ h1 with
            | none => simp only [e1] at s1; exact s1.elim
            | some h2 =>
              simp only [e1] at s1
              obtain ⟨a, ys, rfl, hq, rr⟩ := tup_sq ru
              have hl := setFs_len e1
              refine ⟨a, ys, rfl, hq, by rw [← rr.length, hl]; exact chkFs_len (by assumption), b1, h1, σ, vs, h2, A1.R, A1.s, rr, e1, fun H' x' R' => ?_⟩
              exact s1 _ _ σc (A1.go x' R') (x'.w A1.R.nf)
          | _ => exact s1.elim
        | _ => cases h
      · cases tg <;> cases h
    | _ => cases h
  | .setIx o i e, E, X, sc, c, g, hk, x, h => by
    cases x with
    | Assign ts v pos =>
      rcases ts with _ | ⟨t, _ | ⟨_, _⟩⟩
      · cases h
      · cases t with
        | Subscript y z p =>
          simp only [chkS, Bool.and_eq_true] at h
          obtain ⟨⟨h1, h2⟩, h3⟩ := h
          refine PS.mono (ps_asg (soundE e c v h3) (pg_sub (soundE o c y h1) (soundE i c z h2) set_list (by
            intro w
            cases z with
            | Slice _ _ _ _ => cases i <;> cases h2
            | _ => rfl)) (by
            cases v with
            | SetComp _ _ _ _ => cases e <;> cases h3
            | DictComp _ _ _ _ _ => cases e <;> cases h3
            | _ => rfl) (by cases v <;> rfl) rfl) fun D σc H ⟨b0, H0, b, ah, σ, A, s⟩ => st_one A s fun b1 h1 H1 v u A1 x1 ru hn s1 => ?_
          refine st_one A1 s1 fun b2 h2 H2 x w A2 x2 rx hn2 s2 => st_one A2 s2 fun b3 h3 H3 y k A3 x3 ry hn3 s3 => ?_
          cases x with
          | ref n =>
            cases y with
            | int k =>
              cases ry
              simp only at s3
              cases e1 : h3[n]? with
              | none => simp only [e1] at s3; exact s3.elim
              | some ob =>
                simp only [e1] at s3
                cases ob with
                | lst xs =>
                  simp only at s3
                  cases e2 : ixN xs.length k with
                  | none => simp only [e2] at s3; exact s3.elim
                  | some j =>
                    cases kp : keepable v with
                    | false => simp only [e2, kp] at s3; exact s3.elim
                    | true =>
                      simp only [e2, kp] at s3
                      have rx3 := rx.mono A2.R.nf x3
                      have ru3 := (ru.mono A1.R.nf (x2.trans x3)).keep kp
                      cases rx3 with
                      | ref hn =>
                        rename_i a
                        obtain ⟨ys, ey, rr⟩ := A3.R.ob n _ a e1 hn
                        obtain ⟨x4, R4⟩ := A3.R.wr (o' := .lst (xs.set j v)) (ho := .lst (ys.set j u)) hn ey fun H' x' => ⟨_, rfl, (rr.set ru3 j).mono A3.R.nf x'⟩
                        exact ⟨a, ys, k, j, rfl, rfl, ey, by rw [← rr.length]; exact e2, s3 _ _ σc (A3.go x4 R4) (x4.w A3.R.nf)⟩
                | _ => exact s3.elim
            | _ => exact s3.elim
          | _ => exact s3.elim
        | _ => cases h
      · cases t <;> cases h
    | _ => cases h
  | .setFld o f cs e, E, X, sc, c, g, hk, x, h => by
    cases x with
    | Assign ts v pos =>
      rcases ts with _ | ⟨t, _ | ⟨_, _⟩⟩
      · cases h
      · cases t with
        | Attribute y z p =>
          simp only [chkS, Bool.and_eq_true, decide_eq_true_eq] at h
          obtain ⟨⟨⟨rfl, h1⟩, h3⟩, h4⟩ := h
          refine PS.mono (ps_fld (soundE o c y h1) (soundE e c v h3) (by
            cases v with
            | SetComp _ _ _ _ => cases e <;> cases h3
            | DictComp _ _ _ _ _ => cases e <;> cases h3
            | _ => rfl)) fun D σc H ⟨b0, H0, b, ah, σ, A, s⟩ => st_one A s fun b1 h1 H1 v u A1 x1 ru hn s1 => ?_
          refine st_one A1 s1 fun b2 h2 H2 x w A2 x2 rx hn2 s2 => ?_
          cases e1 : setFldV h2 x f cs v with
          | none => rw [e1] at s2; exact s2.elim
          | some h3 =>
            rw [e1] at s2
            obtain ⟨a, k, dx, gs, ⟨hc, _⟩, ew, eH, hl, x4, R4⟩ := setFld_step A2.R rx (ru.mono A1.R.nf x2) e1
            have q := List.all_eq_true.mp h4 k (by simpa using hc)
            cases q2 : Z.ci[k]? with
            | none => rw [q2] at q; cases q
            | some i =>
              rw [q2] at q
              have ok := c.clsok k i q2
              exact ⟨a, _, dx, gs, ew, eH, ok.cl, ok.at' f (by simpa using q), hl, s2 _ _ σc (A2.go x4 R4) (x4.w A2.R.nf)⟩
        | _ => cases h
      · cases t <;> cases h
    | _ => cases h
  | .augFld b o f cs e, E, X, sc, c, g, hk, x, h => by
    cases x with
    | AugAssign tg op v pos =>
      cases tg with
      | Attribute y z p =>
        simp only [chkS, Bool.and_eq_true, decide_eq_true_eq] at h
        obtain ⟨⟨⟨⟨rfl, h0⟩, h1⟩, h3⟩, h4⟩ := h
        have hip : InOp X op (rIp b) := by
          subst h0
          exact op_ip b
        refine PS.mono (ps_fldaug (soundE o c y h1) (soundE e c v h3) hip) fun D σc H ⟨b0, H0, bb, ah, σ, A, s⟩ => st_one A s fun b1 h1 H1 x u A1 x1 ru hn s1 => ?_
        cases e0 : fldV h1 x f cs with
        | none => rw [e0] at s1; exact s1.elim
        | some w =>
          rw [e0] at s1
          obtain ⟨a, k, dx, gs, w', ⟨hc, hk1⟩, rfl, eH, el, rw_⟩ := fld_step A1.R ru e0
          have q := List.all_eq_true.mp h4 k (by simpa using hc)
          cases q2 : Z.ci[k]? with
          | none => rw [q2] at q; cases q
          | some i =>
            rw [q2] at q
            have ok := c.clsok k i q2
            cases w with
            | int n =>
              cases rw_
              refine ⟨a, _, dx, gs, .int n, rfl, eH, ok.cl, ok.at' f (by simpa using q), el, st_one A1 s1 fun b2 h2 H2 y w A2 x2 ry hn2 s2 => ?_⟩
              cases y with
              | int m =>
                cases ry
                simp only at s2
                split at s2
                · rename_i hcl
                  cases e5 : iopI b n m with
                  | none => simp only [e5] at s2; exact s2.elim
                  | some z =>
                  simp only [e5, ofOpt, Res.bind] at s2
                  cases e1 : setFldV h2 x f cs (.int z) with
                  | none => simp only [e1] at s2; exact s2.elim
                  | some h3 =>
                    simp only [e1] at s2
                    obtain ⟨a', k', dx', gs', ⟨hc', hk2⟩, ew, eH', hl, x4, R4⟩ := setFld_step A2.R (ru.mono A1.R.nf x2) (relT_int _) e1
                    cases ew
                    rw [hk1, hk2] at hcl
                    cases hcl
                    exact iop_step e5 ⟨dx', gs', eH', hl, s2 _ _ σc (A2.go x4 R4) (x4.w A2.R.nf)⟩
                · exact s2.elim
              | _ => exact s2.elim
            | _ => exact s1.elim
      | _ => cases h
    | _ => cases h
  | .dput d k e, E, X, sc, c, g, hk, x, h => by
    cases x with
    | Assign ts v pos =>
      rcases ts with _ | ⟨t, _ | ⟨_, _⟩⟩
      · cases h
      · cases t with
        | Subscript y z p =>
          simp only [chkS, Bool.and_eq_true] at h
          obtain ⟨⟨h1, h2⟩, h3⟩ := h
          refine PS.mono (ps_dput (Nat.lt_of_le_of_lt (Nat.add_le_add_left (by decide : 1 ≤ 64) _) c.un) (soundE d c y h1) (soundE k c z h2) (soundE e c v h3) (by
            cases v with
            | SetComp _ _ _ _ => cases e <;> cases h3
            | DictComp _ _ _ _ _ => cases e <;> cases h3
            | _ => rfl)) fun D σc H ⟨b0, H0, b, ah, σ, A, s⟩ => st_one A s fun b1 h1 H1 v u A1 x1 ru hn s1 => ?_
          refine st_one A1 s1 fun b2 h2 H2 x w A2 x2 rx hn2 s2 => st_one A2 s2 fun b3 h3 H3 y k A3 x3 ry hn3 s3 => ?_
          cases e1 : dPut h3 x y v with
          | none => rw [e1] at s3; exact s3.elim
          | some h4 =>
            rw [e1] at s3
            obtain ⟨a, H4, ew, dp, x4, R4⟩ := dPut_step A3.R (rx.mono A2.R.nf x3) ry (ru.mono A1.R.nf (x2.trans x3)) e1
            exact ⟨a, H4, ew, dp, s3 _ _ σc (A3.go x4 R4) (x4.w A3.R.nf)⟩
        | _ => cases h
      · cases t <;> cases h
    | _ => cases h
  | .setOwn j i e, E, X, sc, c, g, hk, x, h => by
    cases x with
    | Assign ts v pos =>
      rcases ts with _ | ⟨t, _ | ⟨_, _⟩⟩
      · cases h
      · cases t with
        | Subscript y z p =>
          cases y with
          | Name x px =>
            simp only [chkS, Bool.and_eq_true, decide_eq_true_eq] at h
            obtain ⟨⟨⟨⟨h1, h1b⟩, h1c⟩, h2⟩, h3⟩ := h
            refine PS.mono (ps_asg (soundE e c v h3) (pg_sub (pe_var (i := j) (by rw [c.hN]; exact h1) (by rw [c.hsc]; exact vis_of h1b) (nm1 h1c) (nm2 h1c)) (soundE i c z h2) set_list (by
              intro w
              cases z with
              | Slice _ _ _ _ => cases i <;> cases h2
              | _ => rfl)) (by
              cases v with
              | SetComp _ _ _ _ => cases e <;> cases h3
              | DictComp _ _ _ _ _ => cases e <;> cases h3
              | _ => rfl) (by cases v <;> rfl) rfl) fun D σc H ⟨b0, H0, b, ah, σ, A, s⟩ => ?_
            simp only [ex] at s
            split at s
            · rename_i xs e1
              refine st_one A s fun b1 h1 H1 v u A1 x1 ru hn s1 => ?_
              obtain ⟨w, ew, a, ys, ea, _⟩ := A1.s.rel j _ e1
              subst ea
              refine ⟨.ref a, ew, st_one A1 s1 fun b2 h2 H2 y k A2 x2 ry hn2 s2 => ?_⟩
              cases y with
              | int k =>
                cases ry
                simp only at s2
                cases e2 : ixN xs.length k with
                | none => simp only [e2] at s2; exact s2.elim
                | some p =>
                  cases kp : keepable v with
                  | false => simp only [e2, kp] at s2; exact s2.elim
                  | true =>
                    simp only [e2, kp, if_true] at s2
                    obtain ⟨w', ew', a', ys, ea, _, _, hH, rr⟩ := A2.s.rel j _ e1
                    subst ea
                    rw [ew] at ew'; cases ew'
                    obtain ⟨A3, w3⟩ := A2.own e1 ew (rr.set ((ru.mono A1.R.nf x2).keep kp) p)
                    exact ⟨a, ys, k, p, rfl, rfl, hH, by rw [← rr.length]; exact e2, s2 _ _ σc A3 w3⟩
              | _ => exact s2.elim
            · exact s.elim
          | _ => cases h
        | _ => cases h
      · cases t with
        | Subscript y z p => cases y <;> cases h
        | _ => cases h
    | _ => cases h
  | .appOwn j e, E, X, sc, c, g, hk, x, h => by
    cases x with
    | Expr v pos =>
      cases v with
      | Call fn as kws cp =>
        cases fn with
        | Attribute o m ap =>
          cases o with
          | Name x px =>
            rcases as with _ | ⟨v, _ | ⟨_, _⟩⟩ <;> rcases kws with _ | ⟨_, _⟩ <;> first | (cases h; done) | skip
            simp only [chkS, Bool.and_eq_true, decide_eq_true_eq] at h
            obtain ⟨⟨⟨⟨⟨h1, h1b⟩, h1c⟩, rfl⟩, h4⟩, h5⟩ := h
            refine PS.mono (ps_expr (pe_bm PySem.F.plainAttrs_list PySem.F.slot_list_append PySem.F.type_list_append mt_append (pe_var (i := j) (by rw [c.hN]; exact h1) (by rw [c.hsc]; exact vis_of h1b) (nm1 h1c) (nm2 h1c)) (pa_cons (soundE e c v h5) pa_nil (chkE_star h5 _ _)) rfl (by rw [chkE_star h5]; rfl) h4 (chkE_star h5 _ _) rfl) rfl) fun D σc H ⟨b0, H0, b, ah, σ, A, s⟩ => ?_
            simp only [ex] at s
            split at s
            · rename_i xs e1
              obtain ⟨w, ew, a, ys, ea, _, _, hH, rr⟩ := A.s.rel j _ e1
              subst ea
              refine ⟨.ref a, ew, .inl ⟨rfl, ys, SqL.of hH⟩, st_one A s fun b1 h1 H1 v u A1 x1 ru hn s1 => ?_⟩
              split at s1
              · rename_i hc
                obtain ⟨hl, kp⟩ := hc
                obtain ⟨w', ew', a', ys, ea, _, _, hH, rr⟩ := A1.s.rel j _ e1
                subst ea
                rw [ew] at ew'; cases ew'
                obtain ⟨A3, w3⟩ := A1.own e1 ew (rr.append (.cons (ru.keep kp) .nil))
                exact ⟨a, ys, u, rfl, rfl, hH, by rw [← rr.length]; exact lim_lt (Nat.le_of_lt hl), s1 _ _ σc A3 w3⟩
              · exact s1.elim
            · exact s.elim
          | _ => cases h
        | _ => cases h
      | _ => cases h
    | _ => cases h
  | .frz j, E, X, sc, c, g, hk, x, h => by cases x <;> cases h
  | .pub j, E, X, sc, c, g, hk, x, h => by cases x <;> cases h
  | .ifs t a b, E, X, sc, c, g, hk, x, h => by
    cases x with
    | If q y z pos =>
      simp only [chkS, Bool.and_eq_true] at h
      refine PS.mono (ps_if (soundT t c q h.1.1).1 (soundSs a c g hk y h.1.2) (soundSs b c g hk z h.2)) fun D σc H ⟨b0, H0, b, ah, σ, A, s⟩ => st_T A s fun b1 h1 H1 k A1 x1 s1 => ?_
      cases k with
      | false => rw [if_neg Bool.false_ne_true]; exact ⟨b0, H0, b1, h1, σ, A1, s1⟩
      | true => rw [if_pos rfl]; exact ⟨b0, H0, b1, h1, σ, A1, s1⟩
    | _ => cases h
  | .fore t it b, E, X, sc, c, g, hk, x, h => by
    cases x with
    | For tg iter body orelse pos =>
      cases orelse with
      | cons _ _ => cases h
      | nil =>
        simp only [chkS, Bool.and_eq_true] at h
        obtain ⟨⟨h1, h2⟩, h3⟩ := h
        refine PS.mono (ps_for c.own c.calm (soundI it c iter tg h1) (soundG c.hN c.nd c.calm g t tg h2) (soundSs b c g hk body h3) (by cases it with
            | each e' => exact chkE_set h1 _
            | _ => cases iter <;> first | (intro _; rfl) | cases h1)) fun D σc H ⟨b0, H0, b, ah, σ, A, s⟩ => st_I A s fun b1 h1 H1 w J A1 hJ s1 => ?_
        cases hst : w.st with
        | false => rw [if_pos hst] at s1; exact s1.elim
        | true =>
          rw [if_neg (by rw [hst]; decide)] at s1
          exact for_turns A1 hJ hst s1
    | _ => cases h
  | .whil t b, E, X, sc, c, g, hk, x, h => by
    cases x with
    | While q body orelse pos =>
      cases orelse with
      | cons _ _ => cases h
      | nil =>
        simp only [chkS, Bool.and_eq_true] at h
        exact PS.mono (ps_while c.own (soundT t c q h.1).1 (soundSs b c g hk body h.2)) fun D σc H ⟨b0, H0, b, ah, σ, A, s⟩ => while_turns A s
    | _ => cases h
theorem soundSs : ∀ (s : Ss) {E : XK} {X : Cx} {sc : Scope} (c : Cok Z cls cl CX E X sc) (g : Gok X sc) (hk : sc.kind = .function) (x : List Stmt), chkSs Z sc s x = true → PSs X x (tRS X.K cls E (exs cl W s))
  | .nil, E, X, sc, c, g, hk, x, h => by
    cases x with
    | nil => exact fun pins s σc H D I ⟨b0, H0, b, ah, σ, A, sm⟩ => pss_nil pins s σc H D I (sm b H σc A (WExt.refl _ _))
    | cons _ _ => cases h
  | .cons s r, E, X, sc, c, g, hk, xs, h => by
    have gen : ∀ x xs, chkS Z sc s x = true → chkSs Z sc r xs = true → PSs X (x :: xs) (tRS X.K cls E (exs cl W (.cons s r))) := fun x xs h1 h2 => by
      intro pins st σc H D I q
      refine pss_cons (soundS s c g hk x h1) (soundSs r c g hk xs h2) pins st σc H D I ?_
      obtain ⟨b0, H0, b, ah, σ, A, sm⟩ := q
      refine ⟨b0, H0, b, ah, σ, A, ?_⟩
      simp only [exs] at sm
      cases q : ex cl W s σ ah with
      | stuck => rw [q] at sm; exact sm
      | exc c' h' => rw [q] at sm; exact sm
      | ok f h' =>
        rw [q] at sm
        cases f with
        | nx σ' => exact fun b' H' σc' A' w' => ⟨b0, H0, b', h', σ', A', SimS.later w' sm⟩
        | bk σ' => exact sm
        | ct σ' => exact sm
        | rt v => exact sm
    cases s with
    | frz j =>
      intro pins st σc H D I q
      refine soundSs r c g hk xs h pins st σc H D I ?_
      obtain ⟨b0, H0, b, ah, σ, A, sm⟩ := q
      simp only [exs, ex] at sm
      split at sm
      · rename_i xs e1
        obtain ⟨b', A', w'⟩ := A.frz e1
        exact ⟨b0, H0, b', ah, _, A', SimS.later w' sm⟩
      · exact ⟨b0, H0, b, ah, _, A, sm⟩
    | pub j =>
      intro pins st σc H D I q
      refine soundSs r c g hk xs h pins st σc H D I ?_
      obtain ⟨b0, H0, b, ah, σ, A, sm⟩ := q
      simp only [exs, ex] at sm
      split at sm
      · rename_i xs e1
        obtain ⟨b', A', w'⟩ := A.pub e1
        exact ⟨b0, H0, b', _, _, A', SimS.later w' sm⟩
      · exact ⟨b0, H0, b, ah, _, A, sm⟩
    | _ =>
      cases xs with
      | nil => cases h
      | cons x xs =>
        simp only [chkSs, Bool.and_eq_true] at h
        exact gen x xs h.1 h.2
end
end
end R

end

section
set_option Elab.async false
set_option linter.all false
/-! The runner, part M: a whole text. -/
namespace R
open PySem PySem.Spec L2
/-- a def of the text, with its term of the small language -/
structure Dd where
  name : Str
  qual : Str
  glob : Bool
  st : Stmt
  ps : List Str
  N : List Str
  body : Ss
def Dd.df (d : Dd) : Df := ⟨d.ps.length, d.N.length, d.body⟩
def fnOf' (d : Dd) : Option Str := if d.glob then some d.name else none
def statOf (T : List Dd) (gc : List (Str × AV)) (ci : List Ci) (d : Dd) : Stat := ⟨d.N, T.map fnOf', gc, ci⟩
/-- the check of a def against its text -/
def chkD (T : List Dd) (gc : List (Str × AV)) (ci : List Ci) (d : Dd) : Bool := chkSs (statOf T gc ci d) (defScope d.st) d.body (defBody d.st)
/-- the scope of a def -/
def scopeB (N P : List Str) (sc : Scope) : Bool :=
  (match sc.kind with | .function => true | _ => false) && !sc.isCoroutine && !sc.isGenerator && decide N.Nodup && decide (N.take P.length = P) && (P.all fun x => loc sc x) && (sc.names.all fun y => match y.2 with | .free => false | _ => true)
theorem scopeB_ok {N P : List Str} {sc : Scope} (h : scopeB N P sc = true) : FnScope N P sc := by
  unfold scopeB at h
  simp only [Bool.and_eq_true, Bool.not_eq_true', decide_eq_true_eq, List.all_eq_true] at h
  obtain ⟨⟨⟨⟨⟨⟨h1, h2⟩, h3⟩, h4⟩, h5⟩, h6⟩, h7⟩ := h
  refine ⟨?_, h2, h3, h4, h5, fun x hx => loc_of (h6 x hx), fun y hy e => ?_⟩
  · split at h1
    · assumption
    · cases h1
  · have := h7 y hy
    rw [e] at this
    cases this
/-- what the top has made of a def -/
structure Tp (K : PySem.W.Frag) (mg : Str → Option Value) (d : Dd) (fa : Addr) (fd : FuncData) : Prop where
  fn : Fun K d.name d.qual d.st fa fd
  mg : d.glob = true → mg d.name = some (.ref fa)
  bi : Binds K fd d.ps []
  bt : ∀ (s : Shared) (us : List Value), us.length = d.ps.length → BindsTo s fd ⟨us, []⟩ (d.ps.zip us)
/-- the names of builtins stand for them -/
structure Nob (mg : Str → Option Value) : Prop where
  nob : ∀ f : Bl, mg (bkName f) = none
  nor : mg ("range" : Str) = none
  noe : mg ("enumerate" : Str) = none
  noz : mg ("zip" : Str) = none
  noi : mg ("isinstance" : Str) = none
  nobt : ∀ t : Bt, mg (Str.ofString (btName t)) = none
/-- no exception -/
def sp0 (K : PySem.W.Frag) (cls : Nat → Addr) (np : Nat) (cl : Cl) (f : Nat) : Sp := fun vs H Q _ => vs.length = np ∧ ∃ b h avs, Rep K cls b h H ∧ RelAs K b H avs vs ∧ Sim K cls b H (cl f avs h) (kW K H Q) E0
section
variable {P : Program} {w : World} {K : PySem.W.Frag} {mg : Str → Option Value} {base : Heap} {cls : Nat → Addr} {T : List Dd} {gc : List (Str × AV)} {ci : List Ci} {W : Nat}
theorem startA_sr {b : Ab} {H : Hp} {N : List Str} {avs : List AV} {vs : List V} (r : RelAs K b H avs vs) : Sr K b H (startA N.length avs) (start N vs) := by
  have hl := r.length
  refine ⟨by simp [startA, L2.start, hl], fun i v e => ?_⟩
  unfold startA at e
  by_cases hi : i < avs.length
  · rw [List.getElem?_append_left (by simpa using hi), List.getElem?_map] at e
    cases q : avs[i]? with
    | none => rw [q] at e; cases e
    | some v' =>
      rw [q] at e
      cases e
      obtain ⟨u, h1, h2⟩ := r.get q
      refine ⟨u, ?_, RelT.of h2⟩
      unfold L2.start
      rw [List.getElem?_append_left (by simp; omega), List.getElem?_map, h1]
      rfl
  · rw [List.getElem?_append_right (by simpa using hi)] at e
    have := List.getElem?_replicate (a := (none : Option AV)) (n := N.length - avs.length) (i := i - (avs.map some).length)
    rw [this] at e
    split at e <;> cases e
theorem startA_kp {K : PySem.W.Frag} {b : Ab} {H : Hp} {n : Nat} {avs : List AV} {vs : List V} (r : RelAs K b H avs vs) {i : Nat} {v : AV} (e : (startA n avs)[i]? = some (some v)) : keepable v = true := by
  unfold startA at e
  by_cases hi : i < avs.length
  · rw [List.getElem?_append_left (by simpa using hi), List.getElem?_map] at e
    cases q : avs[i]? with
    | none => rw [q] at e; cases e
    | some v' =>
      rw [q] at e
      cases e
      obtain ⟨u, h1, h2⟩ := r.get q
      cases h2 <;> rfl
  · rw [List.getElem?_append_right (by simpa using hi)] at e
    have := List.getElem?_replicate (a := (none : Option AV)) (n := n - avs.length) (i := i - (avs.map some).length)
    rw [this] at e
    split at e <;> cases e
/-- what is known of the classes -/
structure ClsAll (K : PySem.W.Frag) (mg : Str → Option Value) (cls : Nat → Addr) (T : List Dd) (ci : List Ci) : Prop where
  ok : ∀ c i, ci[c]? = some i → ClsOk K mg (cls c) i
  kit : ∀ c i k j, ci[c]? = some i → ci[k]? = some j → PySem.W.kitOne K (.ref (cls c)) (.ref (cls k)) = some (i.mro.contains k)
  mets : ∀ c i m f, ci[c]? = some i → (m, f) ∈ i.meths → ∃ d fa fd, T[f]? = some d ∧ Tp K mg d fa fd ∧ Meth K (cls c) m fa
  inits : ∀ c i f, ci[c]? = some i → i.init = some f → ∃ d fa fd, T[f]? = some d ∧ Tp K mg d fa fd ∧ Mk K (cls c) fa
/-- every def keeps the promise of its run -/
theorem all_ok (hT : ∀ (f : Nat) (d : Dd), T[f]? = some d → ∃ fa fd, Tp K mg d fa fd) (hchk : ∀ d ∈ T, chkD T gc ci d = true) (hsc : ∀ d ∈ T, scopeB d.N d.ps (defScope d.st) = true) (nb : Nob mg)
    (hgc : ∀ x v, gc.lookup x = some v → ∃ u, mg x = some u ∧ RelV (vOf v) u) (hci : ClsAll K mg cls T ci) :
    ∀ (n f : Nat) (d : Dd) (fa : Addr) (fd : FuncData), T[f]? = some d → Tp K mg d fa fd → FnOk P w K mg base CX0 (2 * n) fa fd d.ps (sp0 K cls d.ps.length (callD (T.map Dd.df) W n) f) := by
  intro n
  induction n with
  | zero =>
    intro f d fa fd hf tp
    refine ⟨fun vs H Q E h => h.1, fun A outer s H args us vs Q E hr he hb hv h => ?_⟩
    obtain ⟨_, b, ah, avs, R, r, s⟩ := h
    exact s.elim
  | succ n ih =>
    intro f d fa fd hf tp
    have hmem : d ∈ T := List.mem_of_getElem? hf
    have S := scopeB_ok (hsc d hmem)
    refine tp.fn.ok (k := 2 * n + 1) S (fun vs H Q E h => h.1) fun cdv A outer s H vs Q E hr h => ?_
    obtain ⟨hl, b, ah, avs, R, r, sim⟩ := h
    generalize hX : (cxOf CX0 P w K mg base d.N d.qual (defScope d.st) fa cdv A outer s H E).nox = X
    have eK : X.K = K := by rw [← hX]; rfl
    have c : Cok (statOf T gc ci d) cls (callD (T.map Dd.df) W n) CX0 E0 X (defScope d.st) := by
      rw [← hX]
      have prm : ∀ g d' ga gd, T[g]? = some d' → Tp K mg d' ga gd → Prm P w K mg base CX0 (2 * n) cls (callD (T.map Dd.df) W n) E0 g ga := by
        intro g d' ga gd q tp'
        have sp_of : ∀ b h avs vs H Q, Rep K cls b h H → RelAs K b H avs vs → Sim K cls b H (callD (T.map Dd.df) W n g avs h) (kW K H Q) E0 → sp0 K cls d'.ps.length (callD (T.map Dd.df) W n) g vs H Q E0 := by
          intro b h avs vs H Q R r s
          refine ⟨?_, b, h, avs, R, r, s⟩
          rw [← r.length]
          cases n with
          | zero => exact s.elim
          | succ n =>
            unfold callD at s
            rw [List.getElem?_map, q] at s
            simp only [Option.map_some] at s
            by_cases hh : avs.length = d'.df.np
            · exact hh
            · rw [if_neg hh] at s; exact s.elim
        exact ⟨gd, d'.ps, _, ih g d' ga gd q tp', tp'.bi, sp_of, sp_of⟩
      refine ⟨rfl, S.nd, rfl, rfl, hr.units, hr.gd, nb.nob, nb.nor, nb.noe, nb.noz, nb.noi, nb.nobt, hgc, ⟨2 * n, hr, fun g x hg => ?_, fun c i m f h1 h2 => ?_, fun c i f h1 h2 => ?_⟩, hci.ok, hci.kit, pass0, PassesOwn.never, fun _ _ _ _ _ z => z⟩
      · have hg' : (T.map fnOf')[g]? = some (some x) := hg
        rw [List.getElem?_map] at hg'
        cases q : T[g]? with
        | none => rw [q] at hg'; cases hg'
        | some d' =>
          rw [q] at hg'
          have e : fnOf' d' = some x := Option.some.inj hg'
          unfold fnOf' at e
          split at e
          · rename_i hgl
            cases e
            obtain ⟨ga, gd, tp'⟩ := hT g d' q
            exact ⟨ga, prm g d' ga gd q tp', tp'.mg hgl, tp'.fn.kp⟩
          · cases e
      · obtain ⟨d', fa', fd', e1, e2, e3⟩ := hci.mets c i m f h1 h2
        exact ⟨fa', prm f d' fa' fd' e1 e2, e3⟩
      · obtain ⟨d', fa', fd', e1, e2, e3⟩ := hci.inits c i f h1 h2
        exact ⟨fa', prm f d' fa' fd' e1 e2, e3⟩
    have g : Gok X (defScope d.st) := fun x hx => by
      rw [← hX]
      exact ⟨loc_of hx, .inl rfl⟩
    have hch : chkSs (statOf T gc ci d) (defScope d.st) d.body (defBody d.st) = true := hchk d hmem
    have main := soundSs (W := W) d.body c g S.kind (defBody d.st) hch
    refine ⟨_, main, ?_⟩
    rw [eK]
    have eW : W = W := rfl
    -- the run of the body
    have hrun : callD (T.map Dd.df) W (n + 1) f avs ah = (if avs.length = d.df.np then (exs (callD (T.map Dd.df) W n) W d.body (startA d.N.length avs) ah).bind fun fl h1 => match fl with
      | .rt v => .ok v h1
      | .nx _ => .ok .non h1
      | _ => .stuck
      else .stuck) := by
      show (match (T.map Dd.df)[f]? with | some d => _ | none => _) = _
      rw [List.getElem?_map, hf]
      rfl
    rw [hrun] at sim
    rw [if_pos (by rw [r.length]; exact hl)] at sim
    refine ⟨b, H, b, ah, startA d.N.length avs, ⟨Ext.refl _ _, R, startA_sr r, fun i xs a e => ?_, fun i j xs ys a _ e => ?_, fun i xs e => ?_⟩, ?_⟩
    · have := startA_kp r e; cases this
    · have := startA_kp r e; cases this
    · have := startA_kp r e; cases this
    · cases q : exs (callD (T.map Dd.df) W n) W d.body (startA d.N.length avs) ah with
      | stuck => rw [q] at sim; exact sim.elim
      | exc c h' => rw [q] at sim; exact fun b' H' dd x' R' => sim b' H' dd x' R'
      | ok fl h' =>
        rw [q] at sim
        cases fl with
        | nx σ' => exact fun b' H' σc' A' w' => sim b' H' A'.x A'.R _ (RelT.of .non) fun _ _ e => by cases e
        | bk σ' => exact sim.elim
        | ct σ' => exact sim.elim
        | rt v => exact fun b' H' u x' R' ru => sim b' H' x' R' u (RelT.of ru) fun xs _ e => by subst e; cases ru
end
end R

end

section
set_option Elab.async false
set_option linter.all false
/-! The runner, part N: from the run of the law to the law. -/
namespace R
open PySem PySem.Spec L2
/-- what the top has made of the defs, each a fact that k_is finds; As: their addresses -/
inductive Tops (K : PySem.W.Frag) : List Dd → List Addr → Prop
  | nil : Tops K [] []
  | cons {d : Dd} {T : List Dd} {As : List Addr} {f : Addr} {oc kV doc pm cd ct : Value} {od an : Option Addr} {sl : Array (Option Value)}
      (a : PySem.W.nsIn K mainGlobals d.name = some (some (.ref f)))
      (l : K.lookup f = some ⟨oc, od, .func (PySem.W.fnOf d.name d.qual (defArgs d.st) (defBody d.st) (defScope d.st) .none kV doc pm an cd ct), sl⟩)
      (c : PySem.W.codeIn K cd d.qual = true) (k : PySem.W.keepIn K (.ref f) = true)
      (b : ∀ (kV doc pm : Value) (an : Option Addr) (cdv ct : Value) (us : List Value), us.length = d.ps.length → bindArgs (PySem.W.fnOf d.name d.qual (defArgs d.st) (defBody d.st) (defScope d.st) .none kV doc pm an cdv ct) ⟨us, []⟩ = pure (d.ps.zip us))
      (r : Tops K T As) : Tops K (d :: T) (f :: As)
  /-- a method: C the address of its class -/
  | meth {d : Dd} {T : List Dd} {As : List Addr} {f C : Addr} {x : Str} {oc kV doc pm cd ct : Value} {od an : Option Addr} {sl : Array (Option Value)} (g : d.glob = false)
      (z : PySem.W.nsIn K mainGlobals x = some (some (.ref C)))
      (a : PySem.W.findIn K (.ref C) d.name = some (some (.ref f)))
      (l : K.lookup f = some ⟨oc, od, .func (PySem.W.fnOf d.name d.qual (defArgs d.st) (defBody d.st) (defScope d.st) .none kV doc pm an cd ct), sl⟩)
      (c : PySem.W.codeIn K cd d.qual = true) (k : PySem.W.keepIn K (.ref f) = true)
      (b : ∀ (kV doc pm : Value) (an : Option Addr) (cdv ct : Value) (us : List Value), us.length = d.ps.length → bindArgs (PySem.W.fnOf d.name d.qual (defArgs d.st) (defBody d.st) (defScope d.st) .none kV doc pm an cdv ct) ⟨us, []⟩ = pure (d.ps.zip us))
      (r : Tops K T As) : Tops K (d :: T) (f :: As)
theorem Tops.get {K : PySem.W.Frag} {h : Heap} {mg : Str → Option Value} (X : K.In h) (G : h.Ns mainGlobals mg) : ∀ {T : List Dd} {As : List Addr}, Tops K T As → ∀ (f : Nat) (d : Dd), T[f]? = some d → ∃ fa fd, As[f]? = some fa ∧ Tp K mg d fa fd
  | _, _, .nil, f, d, e => by simp at e
  | _, _, .cons a l c k b r, 0, d, e => by
    simp at e
    subst e
    have F := fun_mk l c k
    exact ⟨_, _, rfl, F, fun _ => PySem.W.mg_of X G a, F.binds b, fun s us hl => .of_eq (b _ _ _ _ _ _ us hl)⟩
  | _, _, .meth g z a l c k b r, 0, d, e => by
    simp at e
    subst e
    have F := fun_mk l c k
    exact ⟨_, _, rfl, F, fun q => (by rw [g] at q; cases q), F.binds b, fun s us hl => .of_eq (b _ _ _ _ _ _ us hl)⟩
  | _, _, .cons a l c k b r, f + 1, d, e => Tops.get X G r f d (by simpa using e)
  | _, _, .meth g z a l c k b r, f + 1, d, e => Tops.get X G r f d (by simpa using e)
theorem Tops.len {K : PySem.W.Frag} : ∀ {T : List Dd} {As : List Addr}, Tops K T As → T.length = As.length
  | _, _, .nil => rfl
  | _, _, .cons _ _ _ _ _ r => by simp [r.len]
  | _, _, .meth _ _ _ _ _ _ _ r => by simp [r.len]
/-- a class, by facts that k_is and kit_is find -/
structure ClsK (K : PySem.W.Frag) (As : List Addr) (i : Ci) (C : Addr) : Prop where
  nm : PySem.W.nsIn K mainGlobals i.name = some (some (.ref C))
  pg : PySem.W.plainGet K C Str.empty = true
  hd : PySem.W.hasDictIn K C = true
  po : PySem.W.plainOver K C = true
  sa : PySem.W.findIn K (.ref C) "__setattr__" = some (some (.builtin "object.__setattr__"))
  at' : ∀ f ∈ i.attrs, PySem.W.findIn K (.ref C) f = some none
  ha : PySem.W.findIn K (.ref C) "__class__" = some (some (.builtin "object.__class__"))
  hn : PySem.W.specialIn K (.builtin "object.__class__") "__get__" = some (some (.builtin "getset_descriptor.__get__"))
  htk : PySem.W.takesIn K (.builtin "object.__class__") = some true
  hm : PySem.W.mroIn K C (.type "object") = some true
  kd : ∀ t ∈ ["NoneType", "bool", "int", "str", "tuple", "list", "dict"], PySem.W.kitOne K (.type t) (.ref C) = some false
  mt : ∀ p ∈ i.meths, ∃ fa, As[p.2]? = some fa ∧ PySem.W.findIn K (.ref C) p.1 = some (some (.ref fa)) ∧ PySem.W.isFn K (.ref fa) = true ∧ PySem.W.keepIn K (.ref fa) = true
  ini : ∀ f, i.init = some f → ∃ fa, As[f]? = some fa ∧ PySem.W.makesIn K C = true ∧ PySem.W.findIn K (.ref C) "__init__" = some (some (.ref fa)) ∧ PySem.W.isFn K (.ref fa) = true ∧ PySem.W.keepIn K (.ref C) = true
inductive Clss (K : PySem.W.Frag) (As : List Addr) : List Ci → List Addr → Prop
  | nil : Clss K As [] []
  | cons {i : Ci} {C : Addr} {r : List Ci} {Cs : List Addr} (a : ClsK K As i C) (t : Clss K As r Cs) : Clss K As (i :: r) (C :: Cs)
theorem Clss.get {K : PySem.W.Frag} {As : List Addr} : ∀ {ci : List Ci} {Cs : List Addr}, Clss K As ci Cs → ∀ (c : Nat) (i : Ci), ci[c]? = some i → ∃ C, Cs[c]? = some C ∧ ClsK K As i C
  | _, _, .nil, c, i, e => by simp at e
  | _, _, .cons a t, 0, i, e => by simp at e; subst e; exact ⟨_, rfl, a⟩
  | _, _, .cons a t, c + 1, i, e => Clss.get t c i (by simpa using e)
/-- every class against every other one -/
def Kits (K : PySem.W.Frag) (ci : List Ci) (Cs : List Addr) : Prop := ∀ (c k : Nat) (i : Ci) (C D : Addr), ci[c]? = some i → Cs[c]? = some C → Cs[k]? = some D → PySem.W.kitOne K (.ref C) (.ref D) = some (i.mro.contains k)
structure NobK (K : PySem.W.Frag) : Prop where
  z1 : PySem.W.nsIn K mainGlobals "len" = some none
  z2 : PySem.W.nsIn K mainGlobals "abs" = some none
  z3 : PySem.W.nsIn K mainGlobals "min" = some none
  z4 : PySem.W.nsIn K mainGlobals "max" = some none
  z5 : PySem.W.nsIn K mainGlobals "sum" = some none
  z6 : PySem.W.nsIn K mainGlobals "list" = some none
  z7 : PySem.W.nsIn K mainGlobals "tuple" = some none
  z8 : PySem.W.nsIn K mainGlobals "int" = some none
  z9 : PySem.W.nsIn K mainGlobals "all" = some none
  z10 : PySem.W.nsIn K mainGlobals "any" = some none
  z11 : PySem.W.nsIn K mainGlobals "range" = some none
  z12 : PySem.W.nsIn K mainGlobals "enumerate" = some none
  z13 : PySem.W.nsIn K mainGlobals "zip" = some none
  z14 : PySem.W.nsIn K mainGlobals "isinstance" = some none
  z15 : PySem.W.nsIn K mainGlobals "bool" = some none
  z16 : PySem.W.nsIn K mainGlobals "str" = some none
  z17 : PySem.W.nsIn K mainGlobals "dict" = some none
theorem NobK.nob {K : PySem.W.Frag} {h : Heap} {mg : Str → Option Value} (X : K.In h) (G : h.Ns mainGlobals mg) (z : NobK K) : Nob mg :=
  ⟨fun f => by
    cases f
    · exact PySem.W.mg_none_of X G z.z1
    · exact PySem.W.mg_none_of X G z.z2
    · exact PySem.W.mg_none_of X G z.z3
    · exact PySem.W.mg_none_of X G z.z4
    · exact PySem.W.mg_none_of X G z.z5
    · exact PySem.W.mg_none_of X G z.z6
    · exact PySem.W.mg_none_of X G z.z7
    · exact PySem.W.mg_none_of X G z.z8
    · exact PySem.W.mg_none_of X G z.z9
    · exact PySem.W.mg_none_of X G z.z10, PySem.W.mg_none_of X G z.z11, PySem.W.mg_none_of X G z.z12, PySem.W.mg_none_of X G z.z13, PySem.W.mg_none_of X G z.z14, fun t => by
    cases t
    · exact PySem.W.mg_none_of X G z.z8
    · exact PySem.W.mg_none_of X G z.z15
    · exact PySem.W.mg_none_of X G z.z16
    · exact PySem.W.mg_none_of X G z.z6
    · exact PySem.W.mg_none_of X G z.z7
    · exact PySem.W.mg_none_of X G z.z17⟩
/-- the text's own constants -/
inductive Gcs (K : PySem.W.Frag) : List (Str × AV) → Prop
  | nil : Gcs K []
  | cons {x : Str} {v : AV} {u : Value} {r : List (Str × AV)} (a : PySem.W.nsIn K mainGlobals x = some (some u)) (e : RelV (vOf v) u) (t : Gcs K r) : Gcs K ((x, v) :: r)
theorem Gcs.get {K : PySem.W.Frag} {h : Heap} {mg : Str → Option Value} (X : K.In h) (G : h.Ns mainGlobals mg) : ∀ {gc : List (Str × AV)}, Gcs K gc → ∀ x v, gc.lookup x = some v → ∃ u, mg x = some u ∧ RelV (vOf v) u
  | _, .nil, x, v, e => by simp at e
  | _, .cons (x := y) a q t, x, v, e => by
    rw [List.lookup_cons] at e
    cases hx : x == y with
    | true =>
      rw [hx] at e
      cases e
      have : x = y := by simpa using hx
      subst this
      exact ⟨_, PySem.W.mg_of X G a, q⟩
    | false =>
      rw [hx] at e
      exact Gcs.get X G t x v e
theorem relAs_ints {K : PySem.W.Frag} (b : Ab) (H : Hp) : ∀ ns : List Int, RelAs K b H (ns.map .int) (ns.map V.int)
  | [] => .nil
  | n :: ns => .cons (.int n) (relAs_ints b H ns)
/-- what is known of a text's top -/
structure Top (K : PySem.W.Frag) (T : List Dd) (gc : List (Str × AV)) (ci : List Ci) (As Cs : List Addr) : Prop where
  tops : Tops K T As
  nob : NobK K
  gcs : Gcs K gc
  clss : Clss K As ci Cs
  kits : Kits K ci Cs
theorem Top.all {K : PySem.W.Frag} {T : List Dd} {gc : List (Str × AV)} {ci : List Ci} {As Cs : List Addr} {h : Heap} {mg : Str → Option Value} (t : Top K T gc ci As Cs) (X : K.In h) (G : h.Ns mainGlobals mg) : ClsAll K mg (fun n => Cs.getD n 0) T ci := by
  have at_ : ∀ c C, Cs[c]? = some C → Cs.getD c 0 = C := fun c C e => by rw [List.getD_eq_getElem?_getD, e]; rfl
  refine ⟨fun c i e => ?_, fun c i k j e1 e2 => ?_, fun c i m f e hm => ?_, fun c i f e hi => ?_⟩
  · obtain ⟨C, eC, k⟩ := t.clss.get c i e
    rw [at_ c C eC]
    exact ⟨PySem.W.mg_of X G k.nm, ⟨k.pg, k.hd, k.po, k.sa⟩, k.at', k.ha, k.hn, k.htk, k.hm, k.kd⟩
  · obtain ⟨C, eC, _⟩ := t.clss.get c i e1
    obtain ⟨D, eD, _⟩ := t.clss.get k j e2
    rw [at_ c C eC, at_ k D eD]
    exact t.kits c k i C D e1 eC eD
  · obtain ⟨C, eC, k⟩ := t.clss.get c i e
    obtain ⟨fa, ea, h1, h2, h3⟩ := k.mt (m, f) hm
    have hl : f < T.length := by rw [t.tops.len]; exact (List.getElem?_eq_some_iff.mp ea).1
    obtain ⟨fa', fd, ea', tp⟩ := t.tops.get X G f T[f] (List.getElem?_eq_getElem hl)
    rw [ea] at ea'; cases ea'
    rw [at_ c C eC]
    exact ⟨T[f], fa, fd, List.getElem?_eq_getElem hl, tp, h1, h2, h3⟩
  · obtain ⟨C, eC, k⟩ := t.clss.get c i e
    obtain ⟨fa, ea, h0, h1, h2, h3⟩ := k.ini f hi
    have hl : f < T.length := by rw [t.tops.len]; exact (List.getElem?_eq_some_iff.mp ea).1
    obtain ⟨fa', fd, ea', tp⟩ := t.tops.get X G f T[f] (List.getElem?_eq_getElem hl)
    rw [ea] at ea'; cases ea'
    rw [at_ c C eC]
    exact ⟨T[f], fa, fd, List.getElem?_eq_getElem hl, tp, h0, h1, h2, h3⟩
/-- the law holds if its run over every script of at most m ints ends with True -/
theorem walk {l : PySem.W.OpenLaw} {q : Program} {loose : List Str} {XP : (Str → Option Value) → Heap → Prop} {YP : World → Heap → Prop} {d : DefRec} {K : Params → PySem.W.Frag} (T : List Dd) (gc : List (Str × AV)) (ci : List Ci) (fl m W k : Nat) (dl : Dd) (x : Str)
    (hn : l.most = some m) (hm : m ≤ sizeLine) (hdf : d.params.defaults = []) (hr : Room (2 * k) callerA) (hY : ∀ (w : World) (h : Heap), YP w h → (K w.params).In h)
    (hl : T[fl]? = some dl) (hname : dl.name = d.name) (hglob : dl.glob = true) (hps : dl.ps = [x]) (hchk : ∀ d ∈ T, chkD T gc ci d = true) (hsc : ∀ d ∈ T, scopeB d.N d.ps (defScope d.st) = true)
    (run : ∀ ns : List Int, ns.length ≤ m → ∃ h', callD (T.map Dd.df) W k fl [.kl (ns.map .int)] [] = .ok (.bl true) h')
    (tops : ∀ w : World, ∃ As Cs, Top (K w.params) T gc ci As Cs) :
    PySem.W.WalkO q loose XP YP l.row.toRowW d [] (fun f vs => PySem.call f vs) := by
  refine L2.walk_of (n := m) (k := 2 * k) (x := x) (CX := fun _ => CX0) (sp := fun w vs H Q E => ∀ cls, sp0 (K w.params) cls 1 (callD (T.map Dd.df) W k) fl vs H Q E) hn hm hdf hr hY (fun w mg fa h KX G hmg => ?_) (fun w H a ns hl' hO hS => ?_) (fun _ _ _ _ _ z => z)
  · obtain ⟨As, Cs, tp⟩ := tops w
    obtain ⟨fa', fd, _, tpl⟩ := tp.tops.get KX G fl dl hl
    have e : fa' = fa := by
      have h1 := tpl.mg hglob
      rw [hname, hmg] at h1
      cases h1
      rfl
    subst e
    refine ⟨fd, fun s u => ?_, fun base kb nbase => ?_⟩
    · have := tpl.bt s [u] (by rw [hps]; rfl)
      rw [hps] at this
      exact this
    · have := all_ok (P := l.prog) (w := w) (base := base) (W := W) (fun f d e => let ⟨fa, fd, _, t⟩ := tp.tops.get KX G f d e; ⟨fa, fd, t⟩) hchk hsc (tp.nob.nob KX G) (tp.gcs.get KX G) (tp.all KX G) k fl dl fa' fd hl tpl
      rw [hps] at this
      exact this.imp fun vs H Q E h => h _
  · intro cls
    obtain ⟨h', e⟩ := run ns hl'
    refine ⟨rfl, ?_⟩
    have rr : ∀ b : Ab, RelAs (K w.params) b H (ns.map .int) (ns.map V.int) := fun b => relAs_ints b H ns
    have done : ∀ b : Ab, Rep (K w.params) cls b [] H → RelA (K w.params) b H (.kl (ns.map .int)) (.ref a) → ∃ b h avs, Rep (K w.params) cls b h H ∧ RelAs (K w.params) b H avs [.ref a] ∧ Sim (K w.params) cls b H (callD (T.map Dd.df) W k fl avs h) (kW (K w.params) H fun v _ => v = .bl true) E0 := fun b R r => by
      refine ⟨b, [], [.kl (ns.map .int)], R, .cons r .nil, ?_⟩
      rw [e]
      intro b' H' x' R' u ru _
      cases ru
      rfl
    rcases hS with (hS | ⟨o, hS⟩) | hS
    · rcases hO a with z | ⟨o, xs, z⟩
      · rw [hS] at z; cases z
      · rw [hS] at z; cases z
    · refine done ⟨[], fun c => c = a⟩ ⟨rfl, List.nodup_nil, (fun _ z => by cases z), fun c z => ⟨.frz o (.lst (ns.map V.int)), by rw [show c = a from z]; exact hS⟩, fun n o c e1 => by simp at e1⟩ (.klF rfl hS (rr _))
    · exact done ⟨[], fun _ => False⟩ ⟨rfl, List.nodup_nil, (fun _ z => by cases z), fun c z => z.elim, fun n o c e1 => by simp at e1⟩ (.klK hS (rr _))
end R

end

section
set_option Elab.async false
set_option linter.all false
/-! The runner, part O: loops by their invariants. -/
namespace R
open PySem PySem.Spec L2
theorem compGo_at {item : AH → Nat → Option (Option AV)} {turn : AV → AH → Res (Option AV)} {xs : List AV} (I : List AV → List AV → AH → Prop)
    (hit : ∀ done v rest acc h, done ++ v :: rest = xs → I done acc h → item h done.length = some (some v)) (hend : ∀ acc h, I xs acc h → item h xs.length = some none)
    (step : ∀ done v rest acc h, done ++ v :: rest = xs → I done acc h → ∃ o h', turn v h = .ok o h' ∧ I (done ++ [v]) (acc ++ o.toList) h') :
    ∀ (rest done acc : List AV) (h : AH), done ++ rest = xs → I done acc h → ∃ acc' h', compGo item turn rest.length done.length acc h = .ok acc' h' ∧ I xs acc' h'
  | [], done, acc, h, e, i => by
    rw [List.append_nil] at e
    subst e
    refine ⟨acc, h, ?_, i⟩
    show compGo item turn 0 done.length acc h = _
    unfold compGo
    rw [hend acc h i]
  | v :: rest, done, acc, h, e, i => by
    obtain ⟨o, h', e1, i'⟩ := step done v rest acc h e i
    obtain ⟨acc', h'', e2, i''⟩ := compGo_at I hit hend step rest (done ++ [v]) (acc ++ o.toList) h' (by simpa using e) i'
    refine ⟨acc', h'', ?_, i''⟩
    show compGo item turn (rest.length + 1) done.length acc h = _
    unfold compGo
    rw [hit done v rest acc h e i]
    simp only [e1, Res.bind]
    rw [List.length_append] at e2
    cases o with
    | none =>
      simp only [Option.toList_none, List.append_nil] at e2
      exact e2
    | some y => exact e2
theorem forGo_at {item : AH → Nat → Option (Option AV)} {turn : AV → AS → AH → Res Fl} {xs : List AV} (I : List AV → AS → AH → Prop)
    (hit : ∀ done v rest σ h, done ++ v :: rest = xs → I done σ h → item h done.length = some (some v)) (hend : ∀ σ h, I xs σ h → item h xs.length = some none)
    (step : ∀ done v rest σ h, done ++ v :: rest = xs → I done σ h → ∃ σ' h', (turn v σ h = .ok (.nx σ') h' ∨ turn v σ h = .ok (.ct σ') h') ∧ I (done ++ [v]) σ' h') :
    ∀ (rest done : List AV) (σ : AS) (h : AH), done ++ rest = xs → I done σ h → ∃ σ' h', forGo item turn rest.length done.length σ h = .ok (.nx σ') h' ∧ I xs σ' h'
  | [], done, σ, h, e, i => by
    rw [List.append_nil] at e
    subst e
    refine ⟨σ, h, ?_, i⟩
    show forGo item turn 0 done.length σ h = _
    unfold forGo
    rw [hend σ h i]
  | v :: rest, done, σ, h, e, i => by
    obtain ⟨σ', h', e1, i'⟩ := step done v rest σ h e i
    obtain ⟨σ'', h'', e2, i''⟩ := forGo_at I hit hend step rest (done ++ [v]) σ' h' (by simpa using e) i'
    refine ⟨σ'', h'', ?_, i''⟩
    show forGo item turn (rest.length + 1) done.length σ h = _
    unfold forGo
    rw [hit done v rest σ h e i]
    rw [List.length_append] at e2
    rcases e1 with e1 | e1 <;> (simp only [e1, Res.bind]; exact e2)
/-- a comprehension over written items whose turns change nothing -/
theorem compGo_pure {turn : AV → AH → Res (Option AV)} {xs : List AV} {h : AH} (g : AV → Option AV) (ht : ∀ v ∈ xs, turn v h = .ok (g v) h) : compGo (fun _ i => some xs[i]?) turn xs.length 0 [] h = .ok (xs.filterMap g) h := by
  obtain ⟨acc, h', e, e2, rfl⟩ := compGo_at (item := fun _ i => some xs[i]?) (turn := turn) (xs := xs) (fun done acc h' => acc = done.filterMap g ∧ h' = h) (fun done v rest acc h' e _ => by simp [← e]) (fun acc h' _ => by simp)
    (fun done v rest acc h' e ⟨i1, i2⟩ => ⟨g v, h, by rw [i2]; exact ht v (by simp [← e]), by rw [i1, List.filterMap_append]; cases q : g v <;> simp [q], rfl⟩) xs [] [] h rfl ⟨rfl, rfl⟩
  rw [e2] at e
  exact e
end R

end

section
set_option Elab.async false
set_option linter.all false
/-! The runner, part P: the evaluator by small equations. -/
namespace R
open PySem PySem.Spec L2
@[simp] theorem bind_ok {α β : Type} (a : α) (h : AH) (f : α → AH → Res β) : (Res.ok a h).bind f = f a h := rfl
@[simp] theorem bind_exc {α β : Type} (c : Nat) (h : AH) (f : α → AH → Res β) : (Res.exc c h : Res α).bind f = .exc c h := rfl
@[simp] theorem bind_stuck {α β : Type} (f : α → AH → Res β) : (Res.stuck : Res α).bind f = .stuck := rfl
@[simp] theorem nox_ok {α : Type} (a : α) (h : AH) : (Res.ok a h).nox = .ok a h := rfl
@[simp] theorem ofOpt_some {α : Type} (a : α) (h : AH) : ofOpt (some a) h = .ok a h := rfl
@[simp] theorem ofOpt_none {α : Type} (h : AH) : ofOpt (none : Option α) h = .stuck := rfl
@[simp] theorem q_keepable_non  : keepable .non = true := rfl
@[simp] theorem q_isPeek_non  : isPeek .non = false := rfl
@[simp] theorem q_peeked_non  : peeked .non = .non := rfl
@[simp] theorem q_rdL_non {h : AH}  : rdL h .non = none := rfl
@[simp] theorem q_rdM_non {h : AH}  : rdM h .non = none := rfl
@[simp] theorem q_rdQ_non {h : AH}  : rdQ h .non = none := rfl
@[simp] theorem q_isNon_non  : isNon .non = some true := rfl
@[simp] theorem q_keepable_bl (c : Bool) : keepable (.bl c) = true := rfl
@[simp] theorem q_isPeek_bl (c : Bool) : isPeek (.bl c) = false := rfl
@[simp] theorem q_peeked_bl (c : Bool) : peeked (.bl c) = (.bl c) := rfl
@[simp] theorem q_rdL_bl {h : AH} (c : Bool) : rdL h (.bl c) = none := rfl
@[simp] theorem q_rdM_bl {h : AH} (c : Bool) : rdM h (.bl c) = none := rfl
@[simp] theorem q_rdQ_bl {h : AH} (c : Bool) : rdQ h (.bl c) = none := rfl
@[simp] theorem q_isNon_bl (c : Bool) : isNon (.bl c) = some false := rfl
@[simp] theorem q_keepable_int (i : Int) : keepable (.int i) = true := rfl
@[simp] theorem q_isPeek_int (i : Int) : isPeek (.int i) = false := rfl
@[simp] theorem q_peeked_int (i : Int) : peeked (.int i) = (.int i) := rfl
@[simp] theorem q_rdL_int {h : AH} (i : Int) : rdL h (.int i) = none := rfl
@[simp] theorem q_rdM_int {h : AH} (i : Int) : rdM h (.int i) = none := rfl
@[simp] theorem q_rdQ_int {h : AH} (i : Int) : rdQ h (.int i) = none := rfl
@[simp] theorem q_isNon_int (i : Int) : isNon (.int i) = some false := rfl
@[simp] theorem q_keepable_str (s : Str) : keepable (.str s) = true := rfl
@[simp] theorem q_isPeek_str (s : Str) : isPeek (.str s) = false := rfl
@[simp] theorem q_peeked_str (s : Str) : peeked (.str s) = (.str s) := rfl
@[simp] theorem q_rdL_str {h : AH} (s : Str) : rdL h (.str s) = none := rfl
@[simp] theorem q_rdM_str {h : AH} (s : Str) : rdM h (.str s) = none := rfl
@[simp] theorem q_rdQ_str {h : AH} (s : Str) : rdQ h (.str s) = none := rfl
@[simp] theorem q_isNon_str (s : Str) : isNon (.str s) = some false := rfl
@[simp] theorem q_keepable_tup (xs : List AV) : keepable (.tup xs) = true := rfl
@[simp] theorem q_isPeek_tup (xs : List AV) : isPeek (.tup xs) = false := rfl
@[simp] theorem q_peeked_tup (xs : List AV) : peeked (.tup xs) = (.tup xs) := rfl
@[simp] theorem q_rdL_tup {h : AH} (xs : List AV) : rdL h (.tup xs) = none := rfl
@[simp] theorem q_rdM_tup {h : AH} (xs : List AV) : rdM h (.tup xs) = none := rfl
@[simp] theorem q_rdQ_tup {h : AH} (xs : List AV) : rdQ h (.tup xs) = some xs := rfl
@[simp] theorem q_isNon_tup (xs : List AV) : isNon (.tup xs) = some false := rfl
@[simp] theorem q_keepable_lst (xs : List AV) : keepable (.lst xs) = true := rfl
@[simp] theorem q_isPeek_lst (xs : List AV) : isPeek (.lst xs) = false := rfl
@[simp] theorem q_peeked_lst (xs : List AV) : peeked (.lst xs) = (.lst xs) := rfl
@[simp] theorem q_rdL_lst {h : AH} (xs : List AV) : rdL h (.lst xs) = some xs := rfl
@[simp] theorem q_rdM_lst {h : AH} (xs : List AV) : rdM h (.lst xs) = some xs := rfl
@[simp] theorem q_rdQ_lst {h : AH} (xs : List AV) : rdQ h (.lst xs) = some xs := rfl
@[simp] theorem q_isNon_lst (xs : List AV) : isNon (.lst xs) = some false := rfl
@[simp] theorem q_keepable_kl (xs : List AV) : keepable (.kl xs) = true := rfl
@[simp] theorem q_isPeek_kl (xs : List AV) : isPeek (.kl xs) = false := rfl
@[simp] theorem q_peeked_kl (xs : List AV) : peeked (.kl xs) = (.kl xs) := rfl
@[simp] theorem q_rdL_kl {h : AH} (xs : List AV) : rdL h (.kl xs) = some xs := rfl
@[simp] theorem q_rdM_kl {h : AH} (xs : List AV) : rdM h (.kl xs) = none := rfl
@[simp] theorem q_rdQ_kl {h : AH} (xs : List AV) : rdQ h (.kl xs) = some xs := rfl
@[simp] theorem q_isNon_kl (xs : List AV) : isNon (.kl xs) = some false := rfl
@[simp] theorem q_keepable_own (xs : List AV) : keepable (.own xs) = false := rfl
@[simp] theorem q_isPeek_own (xs : List AV) : isPeek (.own xs) = false := rfl
@[simp] theorem q_peeked_own (xs : List AV) : peeked (.own xs) = .peek xs := rfl
@[simp] theorem q_rdL_own {h : AH} (xs : List AV) : rdL h (.own xs) = some xs := rfl
@[simp] theorem q_rdM_own {h : AH} (xs : List AV) : rdM h (.own xs) = some xs := rfl
@[simp] theorem q_rdQ_own {h : AH} (xs : List AV) : rdQ h (.own xs) = some xs := rfl
@[simp] theorem q_isNon_own (xs : List AV) : isNon (.own xs) = some false := rfl
@[simp] theorem q_keepable_peek (xs : List AV) : keepable (.peek xs) = false := rfl
@[simp] theorem q_isPeek_peek (xs : List AV) : isPeek (.peek xs) = true := rfl
@[simp] theorem q_peeked_peek (xs : List AV) : peeked (.peek xs) = (.peek xs) := rfl
@[simp] theorem q_rdL_peek {h : AH} (xs : List AV) : rdL h (.peek xs) = some xs := rfl
@[simp] theorem q_rdM_peek {h : AH} (xs : List AV) : rdM h (.peek xs) = some xs := rfl
@[simp] theorem q_rdQ_peek {h : AH} (xs : List AV) : rdQ h (.peek xs) = some xs := rfl
@[simp] theorem q_isNon_peek (xs : List AV) : isNon (.peek xs) = some false := rfl
@[simp] theorem q_keepable_ref (n : Nat) : keepable (.ref n) = true := rfl
@[simp] theorem q_isPeek_ref (n : Nat) : isPeek (.ref n) = false := rfl
@[simp] theorem q_peeked_ref (n : Nat) : peeked (.ref n) = (.ref n) := rfl
@[simp] theorem q_isNon_ref (n : Nat) : isNon (.ref n) = some false := rfl
@[simp] theorem q_keepable_top (v : V) : keepable (.top v) = true := rfl
@[simp] theorem q_isPeek_top (v : V) : isPeek (.top v) = false := rfl
@[simp] theorem q_peeked_top (v : V) : peeked (.top v) = (.top v) := rfl
@[simp] theorem q_rdL_top {h : AH} (v : V) : rdL h (.top v) = none := rfl
@[simp] theorem q_rdM_top {h : AH} (v : V) : rdM h (.top v) = none := rfl
@[simp] theorem q_rdQ_top {h : AH} (v : V) : rdQ h (.top v) = none := rfl
@[simp] theorem q_isNon_top (v : V) : isNon (.top v) = none := rfl
theorem rdL_ref {h : AH} {n : Nat} {xs : List AV} (e : h[n]? = some (.lst xs)) : rdL h (.ref n) = some xs := by simp only [rdL, e]
theorem rdM_ref {h : AH} {n : Nat} {xs : List AV} (e : h[n]? = some (.lst xs)) : rdM h (.ref n) = some xs := by simp only [rdM, rdL, e]
theorem rdQ_ref {h : AH} {n : Nat} {xs : List AV} (e : h[n]? = some (.lst xs)) : rdQ h (.ref n) = some xs := by simp only [rdQ, rdL, e]
section
variable {cl : Cl} {W : Nat} {σ : AS} {h : AH} {k : Kd} {i j : Int} {xs ys : List AV}
/-! operators -/
@[simp] theorem add_ii : bin2 .add k (.int i) (.int j) h = .ok (.int (i + j)) h := rfl
@[simp] theorem sub_ii : bin2 .sub k (.int i) (.int j) h = .ok (.int (i - j)) h := rfl
@[simp] theorem mul_ii : bin2 .mul k (.int i) (.int j) h = if (small i || small j) = true then .ok (.int (i * j)) h else .stuck := id rfl
@[simp] theorem fdiv_ii : bin2 .fdiv k (.int i) (.int j) h = if fdOk j = true then .ok (.int (i / j)) h else .stuck := id rfl
@[simp] theorem shl_ii : bin2 .shl k (.int i) (.int j) h = if shOk i j = true then .ok (.int (i * 2 ^ j.toNat)) h else .stuck := id rfl
@[simp] theorem shr_ii : bin2 .shr k (.int i) (.int j) h = if 0 ≤ j then .ok (.int (i / 2 ^ j.toNat)) h else .stuck := id rfl
@[simp] theorem band_ii : bin2 .band k (.int i) (.int j) h = .ok (.int (Builtin.bitAnd i j)) h := rfl
@[simp] theorem bor_ii : bin2 .bor k (.int i) (.int j) h = .ok (.int (Builtin.bitOr i j)) h := rfl
@[simp] theorem mod_ii : bin2 .mod k (.int i) (.int j) h = if 0 < j then .ok (.int (i % j)) h else .stuck := id rfl
@[simp] theorem pow_ii : bin2 .pow k (.int i) (.int j) h = if pwOk i j = true then .ok (.int (i ^ j.toNat)) h else .stuck := id rfl
theorem add_ll {x y : AV} (e1 : rdM h x = some xs) (e2 : rdM h y = some ys) (n1 : ∀ zs, x ≠ .tup zs) (n2 : ∀ z, x ≠ .int z) : bin2 .add k x y h = mkL k (xs ++ ys) h := by
  cases x <;> first | exact absurd rfl (n1 _) | exact absurd rfl (n2 _) | (simp only [bin2, e1, e2])
@[simp] theorem add_lst_lst : bin2 .add k (.lst xs) (.lst ys) h = mkL k (xs ++ ys) h := rfl
@[simp] theorem add_lst_peek : bin2 .add k (.lst xs) (.peek ys) h = mkL k (xs ++ ys) h := rfl
@[simp] theorem add_peek_lst : bin2 .add k (.peek xs) (.lst ys) h = mkL k (xs ++ ys) h := rfl
@[simp] theorem add_lst_own : bin2 .add k (.lst xs) (.own ys) h = mkL k (xs ++ ys) h := rfl
@[simp] theorem add_peek_own : bin2 .add k (.peek xs) (.own ys) h = mkL k (xs ++ ys) h := rfl
@[simp] theorem mul_lst_i : bin2 .mul k (.lst xs) (.int j) h = if rpOk j = true then mkL k (List.replicate j.toNat xs).flatten h else .stuck := id rfl
@[simp] theorem mul_peek_i : bin2 .mul k (.peek xs) (.int j) h = if rpOk j = true then mkL k (List.replicate j.toNat xs).flatten h else .stuck := id rfl
theorem mkL_fz (hl : xs.length ≤ lim) : mkL .fz xs h = .ok (.lst xs) h := by unfold mkL; rw [if_pos hl]
theorem mkL_hp (hl : xs.length ≤ lim) : mkL .hp xs h = .ok (.ref h.length) (h ++ [.lst xs]) := by unfold mkL; rw [if_pos hl]
theorem mkL_ow (hl : xs.length ≤ lim) : mkL .ow xs h = .ok (.own xs) h := by unfold mkL; rw [if_pos hl]
@[simp] theorem lt_ii : cmp2v .lt (.int i) (.int j) h = some (decide (i < j)) := rfl
@[simp] theorem le_ii : cmp2v .le (.int i) (.int j) h = some (decide (i ≤ j)) := rfl
@[simp] theorem gt_ii : cmp2v .gt (.int i) (.int j) h = some (decide (j < i)) := rfl
@[simp] theorem ge_ii : cmp2v .ge (.int i) (.int j) h = some (decide (j ≤ i)) := rfl
@[simp] theorem eq_ii : cmp2v .eq (.int i) (.int j) h = some (decide (i = j)) := by
  show some (i == j) = _
  by_cases hi : i = j <;> simp [hi]
@[simp] theorem ne_ii : cmp2v .ne (.int i) (.int j) h = some (decide (¬ i = j)) := by
  show some (!(i == j)) = _
  by_cases hi : i = j <;> simp [hi]
@[simp] theorem isN_n {v : AV} : cmp2v .isN v .non h = isNon v := rfl
@[simp] theorem notN_n {v : AV} : cmp2v .notN v .non h = (isNon v).map (!·) := rfl
@[simp] theorem truth_bl {c : Bool} : truth h (.bl c) = some c := rfl
@[simp] theorem truth_int : truth h (.int i) = some (decide (¬ i = 0)) := by
  show some (i != 0) = _
  by_cases hi : i = 0 <;> simp [hi]
@[simp] theorem truth_lst : truth h (.lst xs) = some (!xs.isEmpty) := rfl
@[simp] theorem truth_tup : truth h (.tup xs) = some (!xs.isEmpty) := rfl
/-! builtins -/
theorem len_q {v : AV} (e : rdQ h v = some xs) : bltv .len k [v] h = .ok (.int xs.length) h := by simp only [bltv, e]
@[simp] theorem len_lst : bltv .len k [.lst xs] h = .ok (.int xs.length) h := rfl
@[simp] theorem len_kl : bltv .len k [.kl xs] h = .ok (.int xs.length) h := rfl
@[simp] theorem len_tup : bltv .len k [.tup xs] h = .ok (.int xs.length) h := rfl
@[simp] theorem len_peek : bltv .len k [.peek xs] h = .ok (.int xs.length) h := rfl
@[simp] theorem len_own : bltv .len k [.own xs] h = .ok (.int xs.length) h := rfl
@[simp] theorem abs_i : bltv .abs k [.int i] h = .ok (.int (if i < 0 then -i else i)) h := rfl
@[simp] theorem min_ii : bltv .min k [.int i, .int j] h = .ok (.int (if j < i then j else i)) h := rfl
@[simp] theorem max_ii : bltv .max k [.int i, .int j] h = .ok (.int (if j > i then j else i)) h := rfl
@[simp] theorem int_i : bltv .int k [.int i] h = .ok (.int i) h := rfl
@[simp] theorem int_b {c : Bool} : bltv .int k [.bl c] h = .ok (.int (if c then 1 else 0)) h := rfl
@[simp] theorem list_lst : bltv .list k [.lst xs] h = mkL k xs h := rfl
@[simp] theorem list_kl : bltv .list k [.kl xs] h = mkL k xs h := rfl
@[simp] theorem list_tup : bltv .list k [.tup xs] h = mkL k xs h := rfl
@[simp] theorem list_peek : bltv .list k [.peek xs] h = mkL k xs h := rfl
@[simp] theorem tuple_lst : bltv .tuple k [.lst xs] h = .ok (.tup xs) h := rfl
@[simp] theorem tuple_tup : bltv .tuple k [.tup xs] h = .ok (.tup xs) h := rfl
@[simp] theorem tuple_peek : bltv .tuple k [.peek xs] h = .ok (.tup xs) h := rfl
theorem intsOf_ints : ∀ ns : List Int, intsOf (ns.map .int) = some ns
  | [] => rfl
  | n :: ns => by show (intsOf (ns.map .int)).map _ = _; rw [intsOf_ints ns]; rfl
theorem boolsOf_bools : ∀ ns : List Bool, boolsOf (ns.map .bl) = some ns
  | [] => rfl
  | n :: ns => by show (boolsOf (ns.map .bl)).map _ = _; rw [boolsOf_bools ns]; rfl
theorem sum_q {v : AV} {ns : List Int} (e : rdL h v = some (ns.map .int)) : bltv .sum k [v] h = .ok (.int ns.sum) h := by simp only [bltv, e, Option.bind_some, intsOf_ints]
theorem all_q {v : AV} {ns : List Bool} (e : rdL h v = some (ns.map .bl)) : bltv .all k [v] h = .ok (.bl (ns.all id)) h := by simp only [bltv, e, Option.bind_some, boolsOf_bools]
theorem any_q {v : AV} {ns : List Bool} (e : rdL h v = some (ns.map .bl)) : bltv .any k [v] h = .ok (.bl (ns.any id)) h := by simp only [bltv, e, Option.bind_some, boolsOf_bools]
/-! expressions -/
variable {a b c : E} {t u : T} {es : Es} {o : Eo} {g : Tg} {it : It}
theorem ev_var {n : Nat} {v : AV} (e : σ[n]? = some (some v)) : ev cl (.var n) σ h = .ok (peeked v) h := by simp only [ev, e]
/-- the value of a slot -/
def slotV (n : Nat) (σ : AS) (h : AH) : Res AV := match σ[n]? with
  | some (some v) => .ok (peeked v) h
  | _ => .stuck
@[simp] theorem ev_var' {n : Nat} : ev cl (.var n) σ h = slotV n σ h := rfl
@[simp] theorem slot_zero {v : AV} {r : AS} : slotV 0 (some v :: r) h = .ok (peeked v) h := rfl
@[simp] theorem slot_succ {n : Nat} {x : Option AV} {r : AS} : slotV (n + 1) (x :: r) h = slotV n r h := rfl
@[simp] theorem ev_cst {v : AV} : ev cl (.cst v) σ h = .ok v h := rfl
@[simp] theorem ev_gcs {x : Str} {v : AV} : ev cl (.gcs x v) σ h = .ok v h := rfl
@[simp] theorem ev_bin {q : B2} : ev cl (.bin q k a b) σ h = (ev cl a σ h).bind fun x h1 => (ev cl b σ h1).bind fun y h2 => bin2 q k x y h2 := rfl
def negV (x : AV) (h : AH) : Res AV := match x with
  | .int i => .ok (.int (-i)) h
  | _ => .stuck
@[simp] theorem negV_i : negV (.int i) h = .ok (.int (-i)) h := rfl
@[simp] theorem ev_neg : ev cl (.neg a) σ h = (ev cl a σ h).bind negV := rfl
@[simp] theorem ev_cmp {q : C2} : ev cl (.cmp q a b) σ h = (ev cl a σ h).bind fun x h1 => (ev cl b σ h1).bind fun y h2 => (ofOpt (cmp2v q x y h2) h2).bind fun c h3 => .ok (.bl c) h3 := rfl
def ifB {α : Type} (k : Bool) (x y : Res α) : Res α := match k with
  | true => x
  | false => y
@[simp] theorem ifB_t {α : Type} {x y : Res α} : ifB true x y = x := rfl
@[simp] theorem ifB_f {α : Type} {x y : Res α} : ifB false x y = y := rfl
theorem ifB_dec {α : Type} {p : Prop} [Decidable p] {x y : Res α} : ifB (decide p) x y = if p then x else y := by by_cases hp : p <;> simp [hp]
@[simp] theorem cmp2_eq {q q' : C2} : ev cl (.cmp2 q q' a b c) σ h = (ev cl a σ h).bind fun x h1 => (ev cl b σ h1).bind fun y h2 => (ofOpt (cmp2v q x y h2) h2).bind fun k h3 => ifB k ((ev cl c σ h3).bind fun z h4 => (ofOpt (cmp2v q' y z h4) h4).bind fun k' h5 => .ok (.bl k') h5) (.ok (.bl false) h3) := by
  simp only [ev]
  congr 1; funext x h1; congr 1; funext y h2; congr 1; funext k h3
  cases k <;> rfl
def andV (x : AV) (h : AH) (r : Res AV) : Res AV := match x with
  | .bl true => r
  | .bl false => .ok (.bl false) h
  | _ => .stuck
def orV (x : AV) (h : AH) (r : Res AV) : Res AV := match x with
  | .bl true => .ok (.bl true) h
  | .bl false => r
  | _ => .stuck
def notV (x : AV) (h : AH) : Res AV := match x with
  | .bl c => .ok (.bl (!c)) h
  | _ => .stuck
@[simp] theorem andV_b {k : Bool} {r : Res AV} : andV (.bl k) h r = ifB k r (.ok (.bl false) h) := by cases k <;> rfl
@[simp] theorem orV_b {k : Bool} {r : Res AV} : orV (.bl k) h r = ifB k (.ok (.bl true) h) r := by cases k <;> rfl
@[simp] theorem notV_b {k : Bool} : notV (.bl k) h = .ok (.bl (!k)) h := rfl
@[simp] theorem ev_and : ev cl (.and a b) σ h = (ev cl a σ h).bind fun x h1 => andV x h1 (ev cl b σ h1) := rfl
@[simp] theorem ev_or : ev cl (.or a b) σ h = (ev cl a σ h).bind fun x h1 => orV x h1 (ev cl b σ h1) := rfl
@[simp] theorem ev_not : ev cl (.not a) σ h = (ev cl a σ h).bind notV := rfl
@[simp] theorem ev_ite : ev cl (.ite t a b) σ h = (evT cl t σ h).bind fun k h1 => ifB k (ev cl a σ h1) (ev cl b σ h1) := rfl
@[simp] theorem ev_tup : ev cl (.tup es) σ h = (evs cl es σ h).bind fun xs h1 => if xs.length ≤ lim then .ok (.tup xs) h1 else .stuck := id rfl
@[simp] theorem ev_lst : ev cl (.lst k es) σ h = (evs cl es σ h).bind fun xs h1 => mkL k xs h1 := rfl
def idxV (x y : AV) (h : AH) : Res AV := match rdQ h x, y with
  | some xs, .int k => ofOpt (atI xs k) h
  | _, _ => .stuck
theorem idxV_q {x : AV} (e : rdQ h x = some xs) : idxV x (.int i) h = ofOpt (atI xs i) h := by simp only [idxV, e]
@[simp] theorem idxV_lst : idxV (.lst xs) (.int i) h = ofOpt (atI xs i) h := rfl
@[simp] theorem idxV_kl : idxV (.kl xs) (.int i) h = ofOpt (atI xs i) h := rfl
@[simp] theorem idxV_tup : idxV (.tup xs) (.int i) h = ofOpt (atI xs i) h := rfl
@[simp] theorem idxV_peek : idxV (.peek xs) (.int i) h = ofOpt (atI xs i) h := rfl
@[simp] theorem ev_idx : ev cl (.idx a b) σ h = (ev cl a σ h).bind fun x h1 => (ev cl b σ h1).bind fun y h2 => idxV x y h2 := rfl
/-- a slice -/
def cutA (xs : List AV) (l u : Option Int) : List AV := (xs.drop (HT.sIx xs.length 0 l)).take (HT.sIx xs.length xs.length u - HT.sIx xs.length 0 l)
def slcV (k : Kd) (x : AV) (l u : Option Int) (h : AH) : Res AV := match rdL h x with
  | some xs => mkL k (cutA xs l u) h
  | none => .stuck
theorem slcV_q {x : AV} {l u : Option Int} (e : rdL h x = some xs) : slcV k x l u h = mkL k (cutA xs l u) h := by simp only [slcV, e]
@[simp] theorem slcV_lst {l u : Option Int} : slcV k (.lst xs) l u h = mkL k (cutA xs l u) h := rfl
@[simp] theorem slcV_kl {l u : Option Int} : slcV k (.kl xs) l u h = mkL k (cutA xs l u) h := rfl
@[simp] theorem slcV_peek {l u : Option Int} : slcV k (.peek xs) l u h = mkL k (cutA xs l u) h := rfl
@[simp] theorem ev_slc {o o' : Eo} : ev cl (.slc k a o o') σ h = (ev cl a σ h).bind fun x h1 => (evo cl o σ h1).bind fun l h2 => (evo cl o' σ h2).bind fun u h3 => slcV k x l u h3 := rfl
@[simp] theorem revV_lst : revV k (.lst xs) (.int (-1)) h = mkL k xs.reverse h := rfl
@[simp] theorem revV_peek : revV k (.peek xs) (.int (-1)) h = mkL k xs.reverse h := rfl
@[simp] theorem ev_rev {m : E} : ev cl (.rev k a m) σ h = (ev cl a σ h).bind fun x h1 => (ev cl m σ h1).bind fun y h2 => revV k x y h2 := rfl
@[simp] theorem ev_call {f : Nat} : ev cl (.call f es) σ h = (evs cl es σ h).bind fun xs h1 => cl f xs h1 := rfl
@[simp] theorem ev_blt {f : Bl} : ev cl (.blt f k es) σ h = (evp cl es σ h).bind fun xs h1 => bltv f k xs h1 := rfl
/-- a turn of a comprehension -/
def compTurn (cl : Cl) (t : Tg) (c : To) (e : E) (σ : AS) (v : AV) (h : AH) : Res (Option AV) := ((ofOpt (setT t v σ) h).bind fun σ2 h3 => (evc cl c σ2 h3).bind fun b h4 => ifB b ((ev cl e σ2 h4).bind fun y h5 => if keepable y then .ok (some y) h5 else .stuck) (.ok none h4)).nox
@[simp] theorem ev_comp {d : To} {vs : List Nat} : ev cl (.comp k g it d a vs) σ h = (evI cl it σ h).bind fun w h1 => if lim < w.n then .stuck else (compGo w.item (compTurn cl g d a (wipeA σ vs)) w.n 0 [] h1).bind fun xs h2 => mkL k xs h2 := by
  have e : compTurn cl g d a (wipeA σ vs) = fun v h2 => ((ofOpt (setT g v (wipeA σ vs)) h2).bind fun σ2 h3 => (evc cl d σ2 h3).bind fun b h4 => match b with
        | false => .ok none h4
        | true => (ev cl a σ2 h4).bind fun y h5 => if keepable y then .ok (some y) h5 else .stuck).nox := by
    funext v h2
    unfold compTurn
    congr 2; funext σ2 h3; congr 1; funext b h4; cases b <;> rfl
  rw [e]
  rfl
@[simp] theorem evs_nil : evs cl .nil σ h = .ok [] h := rfl
@[simp] theorem evs_cons : evs cl (.cons a es) σ h = (ev cl a σ h).bind fun x h1 => if keepable x = true then (evs cl es σ h1).bind fun xs h2 => .ok (x :: xs) h2 else .stuck := id rfl
@[simp] theorem evp_nil : evp cl .nil σ h = .ok [] h := rfl
@[simp] theorem evp_cons : evp cl (.cons a es) σ h = (ev cl a σ h).bind fun x h1 => (evp cl es σ h1).bind fun xs h2 => .ok (x :: xs) h2 := rfl
@[simp] theorem evn_nil : evn cl .nil σ h = .ok [] h := rfl
@[simp] theorem evn_cons : evn cl (.cons a es) σ h = (ev cl a σ h).bind fun x h1 => if isPeek x = true then .stuck else (evn cl es σ h1).bind fun xs h2 => .ok (x :: xs) h2 := id rfl
@[simp] theorem evo_no : evo cl .no σ h = .ok none h := rfl
def intO (x : AV) (h : AH) : Res (Option Int) := match x with
  | .int i => .ok (some i) h
  | _ => .stuck
@[simp] theorem intO_i : intO (.int i) h = .ok (some i) h := rfl
@[simp] theorem evo_so : evo cl (.so a) σ h = (ev cl a σ h).bind intO := rfl
@[simp] theorem evc_no : evc cl .no σ h = .ok true h := rfl
@[simp] theorem evc_so : evc cl (.so t) σ h = evT cl t σ h := rfl
@[simp] theorem evT_and : evT cl (.and t u) σ h = (evT cl t σ h).bind fun c h1 => ifB c (evT cl u σ h1) (.ok false h1) := rfl
@[simp] theorem evT_or : evT cl (.or t u) σ h = (evT cl t σ h).bind fun c h1 => ifB c (.ok true h1) (evT cl u σ h1) := rfl
@[simp] theorem evT_not : evT cl (.not t) σ h = (evT cl t σ h).bind fun c h1 => .ok (!c) h1 := rfl
@[simp] theorem evT_val : evT cl (.val a) σ h = (ev cl a σ h).bind fun x h1 => ofOpt (truth h1 x) h1 := rfl
def rng1V (x : AV) (h : AH) : Res Wk := match x with
  | .int j => if rgOk j then .ok (wkRng 0 j.toNat) h else .stuck
  | _ => .stuck
@[simp] theorem rng1V_i : rng1V (.int j) h = if rgOk j = true then .ok (wkRng 0 j.toNat) h else .stuck := id rfl
def rng2V (x y : AV) (h : AH) : Res Wk := match x, y with
  | .int i, .int j => if rgOk i && rgOk j then .ok (wkRng i (j - i).toNat) h else .stuck
  | _, _ => .stuck
@[simp] theorem rng2V_i : rng2V (.int i) (.int j) h = if (rgOk i && rgOk j) = true then .ok (wkRng i (j - i).toNat) h else .stuck := id rfl
@[simp] theorem evI_each : evI cl (.each a) σ h = (ev cl a σ h).bind fun x h1 => ofOpt (wkEach x h1) h1 := rfl
@[simp] theorem evI_rng1 : evI cl (.rng1 a) σ h = (ev cl a σ h).bind rng1V := rfl
@[simp] theorem evI_rng2 : evI cl (.rng2 a b) σ h = (ev cl a σ h).bind fun x h1 => (ev cl b σ h1).bind fun y h2 => rng2V x y h2 := rfl
@[simp] theorem evI_enum : evI cl (.enum a) σ h = (ev cl a σ h).bind fun x h1 => ofOpt (wkEnum x h1) h1 := rfl
@[simp] theorem evI_zip : evI cl (.zip a b) σ h = (ev cl a σ h).bind fun x h1 => (ev cl b σ h1).bind fun y h2 => ofOpt (wkZip x y h2) h2 := rfl
/-- a walk over written items -/
def wkL (xs : List AV) : Wk := ⟨xs.length, true, fun _ i => some xs[i]?⟩
@[simp] theorem wkEach_lst : wkEach (.lst xs) h = some (wkL xs) := rfl
@[simp] theorem wkEach_kl : wkEach (.kl xs) h = some (wkL xs) := rfl
@[simp] theorem wkEach_tup : wkEach (.tup xs) h = some (wkL xs) := rfl
@[simp] theorem wkL_n : (wkL xs).n = xs.length := rfl
@[simp] theorem wkL_st : (wkL xs).st = true := rfl
theorem wkL_item : (wkL xs).item = fun _ i => some xs[i]? := rfl
/-! statements -/
variable {s : S} {r p q : Ss}
@[simp] theorem exs_nil : exs cl W .nil σ h = .ok (.nx σ) h := rfl
def thenS (f : Fl) (h : AH) (g : AS → AH → Res Fl) : Res Fl := match f with
  | .nx σ => g σ h
  | f => .ok f h
@[simp] theorem thenS_nx {g : AS → AH → Res Fl} : thenS (.nx σ) h g = g σ h := rfl
@[simp] theorem thenS_rt {g : AS → AH → Res Fl} {v : AV} : thenS (.rt v) h g = .ok (.rt v) h := rfl
@[simp] theorem thenS_bk {g : AS → AH → Res Fl} : thenS (.bk σ) h g = .ok (.bk σ) h := rfl
@[simp] theorem thenS_ct {g : AS → AH → Res Fl} : thenS (.ct σ) h g = .ok (.ct σ) h := rfl
@[simp] theorem exs_cons : exs cl W (.cons s r) σ h = (ex cl W s σ h).bind fun f h1 => thenS f h1 (exs cl W r) := rfl
@[simp] theorem ex_pass : ex cl W .pass σ h = .ok (.nx σ) h := rfl
@[simp] theorem ex_brk : ex cl W .brk σ h = .ok (.bk σ) h := rfl
@[simp] theorem ex_cont : ex cl W .cont σ h = .ok (.ct σ) h := rfl
@[simp] theorem ex_retN : ex cl W .retN σ h = .ok (.rt .non) h := rfl
@[simp] theorem ex_ret : ex cl W (.ret a) σ h = (ev cl a σ h).bind fun v h1 => if keepable v = true then .ok (.rt v) h1 else .stuck := id rfl
@[simp] theorem ex_expr : ex cl W (.expr a) σ h = (ev cl a σ h).bind fun _ h1 => .ok (.nx σ) h1 := rfl
@[simp] theorem ex_set {n : Nat} : ex cl W (.set n a) σ h = (ev cl a σ h).bind fun v h1 => if isPeek v = true then .stuck else if n < σ.length then .ok (.nx (σ.set n (some v))) h1 else .stuck := id rfl
@[simp] theorem ex_asg : ex cl W (.asg g a) σ h = (ev cl a σ h).bind fun v h1 => (ofOpt (setT g v σ) h1).bind fun σ' h2 => .ok (.nx σ') h2 := rfl
@[simp] theorem ex_par {ts : List Nat} : ex cl W (.par ts es) σ h = (evn cl es σ h).bind fun vs h1 => (ofOpt (setN ts vs σ) h1).bind fun σ' h2 => .ok (.nx σ') h2 := rfl
@[simp] theorem ex_ifs : ex cl W (.ifs t p q) σ h = (evT cl t σ h).bind fun k h1 => ifB k (exs cl W p σ h1) (exs cl W q σ h1) := rfl
def frzS (n : Nat) (σ : AS) : AS := match σ[n]? with
  | some (some (.own xs)) => σ.set n (some (.lst xs))
  | _ => σ
@[simp] theorem ex_frz {n : Nat} : ex cl W (.frz n) σ h = .ok (.nx (frzS n σ)) h := by
  simp only [ex, frzS]
  cases σ[n]? with
  | none => rfl
  | some o => cases o with
    | none => rfl
    | some v => cases v <;> rfl
@[simp] theorem frz_own0 {ρ : AS} : frzS 0 (some (.own xs) :: ρ) = some (.lst xs) :: ρ := rfl
@[simp] theorem frz_succ {n : Nat} {x : Option AV} {ρ : AS} : frzS (n + 1) (x :: ρ) = x :: frzS n ρ := by
  unfold frzS
  simp only [List.getElem?_cons_succ]
  cases ρ[n]? with
  | none => rfl
  | some o => cases o with
    | none => rfl
    | some v => cases v <;> rfl
def ownS (n : Nat) (σ : AS) : Option (List AV) := match σ[n]? with
  | some (some (.own xs)) => some xs
  | _ => none
@[simp] theorem ownS_own0 {ρ : AS} : ownS 0 (some (.own xs) :: ρ) = some xs := rfl
@[simp] theorem ownS_succ {n : Nat} {x : Option AV} {ρ : AS} : ownS (n + 1) (x :: ρ) = ownS n ρ := rfl
@[simp] theorem ex_app {n : Nat} : ex cl W (.appOwn n a) σ h = (ofOpt (ownS n σ) h).bind fun xs _ => (ev cl a σ h).bind fun v h1 => if xs.length < lim ∧ keepable v = true then .ok (.nx (σ.set n (some (.own (xs ++ [v]))))) h1 else .stuck := by
  simp only [ex, ownS]
  cases σ[n]? with
  | none => rfl
  | some o => cases o with
    | none => rfl
    | some v => cases v <;> rfl
def putA (xs : List AV) (y v : AV) (h : AH) (n : Nat) (σ : AS) : Res Fl := match y with
  | .int k => match ixN xs.length k with
    | some p => if keepable v = true then .ok (.nx (σ.set n (some (.own (xs.set p v))))) h else .stuck
    | none => .stuck
  | _ => .stuck
@[simp] theorem putA_i {v : AV} {n : Nat} : putA xs (.int i) v h n σ = (ofOpt (ixN xs.length i) h).bind fun p _ => if keepable v = true then .ok (.nx (σ.set n (some (.own (xs.set p v))))) h else .stuck := by
  simp only [putA]; cases ixN xs.length i <;> rfl
@[simp] theorem ex_setOwn {n : Nat} : ex cl W (.setOwn n b a) σ h = (ofOpt (ownS n σ) h).bind fun xs _ => (ev cl a σ h).bind fun v h1 => (ev cl b σ h1).bind fun y h2 => putA xs y v h2 n σ := by
  simp only [ex, ownS]
  cases σ[n]? with
  | none => rfl
  | some o => cases o with
    | none => rfl
    | some v => cases v <;> rfl
/-- a store into an object of the heap -/
def putH (x y v : AV) (h : AH) (σ : AS) : Res Fl := match x, y with
  | .ref n, .int k => match h[n]? with
    | some (.lst xs) => match ixN xs.length k, keepable v with
      | some j, true => .ok (.nx σ) (h.set n (.lst (xs.set j v)))
      | _, _ => .stuck
    | _ => .stuck
  | _, _ => .stuck
theorem putH_i {n j : Nat} {v : AV} (e : h[n]? = some (.lst xs)) (e2 : ixN xs.length i = some j) (kp : keepable v = true) : putH (.ref n) (.int i) v h σ = .ok (.nx σ) (h.set n (.lst (xs.set j v))) := by simp only [putH, e, e2, kp]
@[simp] theorem ex_setIx {d : E} : ex cl W (.setIx d b a) σ h = (ev cl a σ h).bind fun v h1 => (ev cl d σ h1).bind fun x h2 => (ev cl b σ h2).bind fun y h3 => putH x y v h3 σ := rfl
def forTurn (cl : Cl) (W : Nat) (g : Tg) (p : Ss) (v : AV) (σ : AS) (h : AH) : Res Fl := (ofOpt (setT g v σ) h).bind fun σ' h' => exs cl W p σ' h'
@[simp] theorem ex_fore : ex cl W (.fore g it p) σ h = (evI cl it σ h).bind fun w h1 => if w.st = false then .stuck else forGo w.item (forTurn cl W g p) w.n 0 σ h1 := id rfl
@[simp] theorem ex_whil : ex cl W (.whil t p) σ h = whileGo (evT cl t) (exs cl W p) W σ h := rfl
def augV (o : B2) (n : Nat) (x : Int) (v : AV) (σ : AS) (h : AH) : Res Fl := match v with
  | .int y => (ofOpt (iopI o x y) h).bind fun z h2 => .ok (.nx (σ.set n (some (.int z)))) h2
  | _ => .stuck
@[simp] theorem augV_i {o : B2} {n : Nat} : augV o n i (.int j) σ h = (ofOpt (iopI o i j) h).bind fun z h2 => .ok (.nx (σ.set n (some (.int z)))) h2 := rfl
@[simp] theorem iop_add : iopI .add i j = some (i + j) := rfl
@[simp] theorem iop_sub : iopI .sub i j = some (i - j) := rfl
@[simp] theorem iop_band : iopI .band i j = some (Builtin.bitAnd i j) := rfl
@[simp] theorem iop_bor : iopI .bor i j = some (Builtin.bitOr i j) := rfl
@[simp] theorem iop_mul : iopI .mul i j = if (small i || small j) = true then some (i * j) else none := id rfl
@[simp] theorem iop_shl : iopI .shl i j = if shOk i j = true then some (i * 2 ^ j.toNat) else none := id rfl
def intS (n : Nat) (σ : AS) : Option Int := match σ[n]? with
  | some (some (.int x)) => some x
  | _ => none
@[simp] theorem intS_0 {ρ : AS} : intS 0 (some (.int i) :: ρ) = some i := rfl
@[simp] theorem intS_succ {n : Nat} {x : Option AV} {ρ : AS} : intS (n + 1) (x :: ρ) = intS n ρ := rfl
@[simp] theorem ex_aug {o : B2} {n : Nat} : ex cl W (.aug o n a) σ h = (ofOpt (intS n σ) h).bind fun x _ => (ev cl a σ h).bind fun v h1 => augV o n x v σ h1 := by
  simp only [ex, intS]
  cases σ[n]? with
  | none => rfl
  | some o => cases o with
    | none => rfl
    | some v => cases v <;> rfl
@[simp] theorem setT_nm {n : Nat} {v : AV} : setT (.nm n) v σ = if (keepable v && decide (n < σ.length)) = true then some (σ.set n (some v)) else none := id rfl
@[simp] theorem setT_tp {ts : Tgs} : setT (.tp ts) (.tup xs) σ = setT.setTs ts xs σ := rfl
@[simp] theorem setTs_nil : setT.setTs .nil [] σ = some σ := rfl
@[simp] theorem setTs_cons {ts : Tgs} {v : AV} : setT.setTs (.cons g ts) (v :: xs) σ = (setT g v σ).bind fun σ' => setT.setTs ts xs σ' := by
  simp only [setT.setTs]; cases setT g v σ <;> rfl
@[simp] theorem setN_nil : setN [] [] σ = some σ := rfl
@[simp] theorem setN_cons {n : Nat} {ns : List Nat} {v : AV} : setN (n :: ns) (v :: xs) σ = if n < σ.length ∧ isPeek v = false then setN ns xs (σ.set n (some v)) else none := id rfl
end
def endD (f : Fl) (h : AH) : Res AV := match f with
  | .rt v => .ok v h
  | .nx _ => .ok .non h
  | _ => .stuck
@[simp] theorem endD_rt {v : AV} {h : AH} : endD (.rt v) h = .ok v h := rfl
@[simp] theorem endD_nx {σ : AS} {h : AH} : endD (.nx σ) h = .ok .non h := rfl
theorem callD_eq {P : List Df} {W n f : Nat} {d : Df} {vs : List AV} {h : AH} (e : P[f]? = some d) (hl : vs.length = d.np) : callD P W (n + 1) f vs h = (exs (callD P W n) W d.body (startA d.nn vs) h).bind endD := by
  simp only [callD, e, if_pos hl]
  rfl
end R

end

section
set_option Elab.async false
set_option linter.all false
/-! The runner, part Q: fields, methods and the rest by small equations. -/
namespace R
open PySem PySem.Spec L2
section
variable {cl : Cl} {W : Nat} {σ : AS} {h : AH} {k : Kd} {i j : Int} {xs ys : List AV} {a b c : E} {es : Es}
def insF (o : Option AO) (f : Str) (cs : List Nat) : Option AV := match o with
  | some (.ins c fs) => if cs.contains c then fs.lookup f else none
  | _ => none
@[simp] theorem fldV_ref {n : Nat} {f : Str} {cs : List Nat} : fldV h (.ref n) f cs = insF h[n]? f cs := by
  simp only [fldV, insF]
  all_goals
    cases h[n]? with
    | none => rfl
    | some o => cases o <;> rfl
@[simp] theorem insF_some {n : Nat} {f : Str} {cs : List Nat} {fs : List (Str × AV)} : insF (some (.ins n fs)) f cs = if cs.contains n = true then fs.lookup f else none := id rfl
@[simp] theorem ev_fld {f : Str} {cs : List Nat} : ev cl (.fld a f cs) σ h = (ev cl a σ h).bind fun x h1 => ofOpt (fldV h1 x f cs) h1 := rfl
def insP (h : AH) (n : Nat) (o : Option AO) (f : Str) (cs : List Nat) (v : AV) : Option AH := match o with
  | some (.ins c fs) => if cs.contains c = true ∧ fs.length < 1000 then some (h.set n (.ins c (putFA f v fs))) else none
  | _ => none
@[simp] theorem setFldV_ref {n : Nat} {f : Str} {cs : List Nat} {v : AV} : setFldV h (.ref n) f cs v = if keepable v = false then none else insP h n h[n]? f cs v := by
  simp only [setFldV, insP]
  all_goals
    split
    · rfl
    · cases h[n]? with
      | none => rfl
      | some o => cases o <;> rfl
@[simp] theorem insP_some {n m : Nat} {f : Str} {cs : List Nat} {fs : List (Str × AV)} {v : AV} : insP h m (some (.ins n fs)) f cs v = if cs.contains n = true ∧ fs.length < 1000 then some (h.set m (.ins n (putFA f v fs))) else none := id rfl
@[simp] theorem ex_setFld {f : Str} {cs : List Nat} : ex cl W (.setFld a f cs b) σ h = (ev cl b σ h).bind fun v h1 => (ev cl a σ h1).bind fun x h2 => (ofOpt (setFldV h2 x f cs v) h2).bind fun h3 _ => .ok (.nx σ) h3 := rfl
def insC (o : Option AO) : Option Nat := match o with
  | some (.ins c _) => some c
  | _ => none
@[simp] theorem clsOf_ref {n : Nat} : clsOf h (.ref n) = insC h[n]? := by
  simp only [clsOf, insC]
  all_goals
    cases h[n]? with
    | none => rfl
    | some o => cases o <;> rfl
@[simp] theorem insC_some {n : Nat} {fs : List (Str × AV)} : insC (some (.ins n fs)) = some n := rfl
def intV (v : AV) : Option Int := match v with
  | .int i => some i
  | _ => none
@[simp] theorem intV_i : intV (.int i) = some i := rfl
@[simp] theorem ex_augFld {o : B2} {f : Str} {cs : List Nat} : ex cl W (.augFld o a f cs b) σ h = (ev cl a σ h).bind fun x h1 => (ofOpt (fldV h1 x f cs) h1).bind fun v _ => (ofOpt (intV v) h1).bind fun i _ => (ev cl b σ h1).bind fun w h2 => (ofOpt (intV w) h2).bind fun j _ =>
    if clsOf h2 x = clsOf h1 x then (ofOpt (iopI o i j) h2).bind fun z _ => (ofOpt (setFldV h2 x f cs (.int z)) h2).bind fun h3 _ => .ok (.nx σ) h3 else .stuck := by
  simp only [ex]
  congr 1; funext x h1; congr 1; funext v h1'
  cases v <;> first | rfl | skip
  simp only [intV, ofOpt_some, bind_ok]
  congr 1; funext w h2
  cases w <;> rfl
def lstO (o : Option AO) : Option (List AV) := match o with
  | some (.lst xs) => some xs
  | _ => none
@[simp] theorem lstO_some : lstO (some (.lst xs)) = some xs := rfl
def refV (v : AV) : Option Nat := match v with
  | .ref n => some n
  | _ => none
@[simp] theorem refV_r {n : Nat} : refV (.ref n) = some n := rfl
@[simp] theorem ex_augIx {o : B2} : ex cl W (.augIx o a b c) σ h = (ev cl a σ h).bind fun v h1 => (ev cl b σ h1).bind fun k h2 => (ofOpt (refV v) h2).bind fun n _ => (ofOpt (intV k) h2).bind fun k _ => (ofOpt (lstO h2[n]?) h2).bind fun xs _ => (ofOpt (atI xs k) h2).bind fun y _ => (ofOpt (intV y) h2).bind fun i _ =>
    (ev cl c σ h2).bind fun w h3 => (ofOpt (intV w) h3).bind fun j _ => (ofOpt (iopI o i j) h3).bind fun z _ => (ofOpt (lstO h3[n]?) h3).bind fun ys _ => (ofOpt (ixN ys.length k) h3).bind fun p _ => .ok (.nx σ) (h3.set n (.lst (ys.set p (.int z)))) := by
  simp only [ex]
  congr 1; funext v h1; congr 1; funext k h2
  cases v <;> first | rfl | skip
  rename_i n
  cases k <;> first | rfl | skip
  rename_i k
  simp only [refV, intV, ofOpt_some, bind_ok]
  cases h2[n]? with
  | none => rfl
  | some ob =>
    cases ob <;> first | rfl | skip
    rename_i xs
    simp only [lstO, ofOpt_some, bind_ok]
    cases atI xs k with
    | none => rfl
    | some y =>
      cases y <;> first | rfl | skip
      rename_i i
      simp only [ofOpt_some, bind_ok]
      congr 1; funext w h3
      cases w <;> first | rfl | skip
      rename_i j
      simp only [ofOpt_some, bind_ok]
      congr 1; funext z _
      cases h3[n]? with
      | none => rfl
      | some ob =>
        cases ob <;> first | rfl | skip
        rename_i ys
        simp only [ofOpt_some, bind_ok]
        cases ixN ys.length k <;> rfl
def insM (o : Option AO) (m : Str) (alts : List (Nat × Nat)) : Option Nat := match o with
  | some (.ins c fs) => if (fs.lookup m).isNone then alts.lookup c else none
  | _ => none
@[simp] theorem methD_ref {n : Nat} {m : Str} {alts : List (Nat × Nat)} : methD h (.ref n) m alts = insM h[n]? m alts := by
  simp only [methD, insM]
  all_goals
    cases h[n]? with
    | none => rfl
    | some o => cases o <;> rfl
@[simp] theorem insM_some {n : Nat} {m : Str} {alts : List (Nat × Nat)} {fs : List (Str × AV)} : insM (some (.ins n fs)) m alts = if (fs.lookup m).isNone = true then alts.lookup n else none := id rfl
@[simp] theorem ev_meth {m : Str} {alts : List (Nat × Nat)} : ev cl (.meth a m alts es) σ h = (ev cl a σ h).nox.bind fun x h1 => (ofOpt (methD h1 x m alts) h1).bind fun f _ => (evs cl es σ h1).bind fun xs h2 => cl f (x :: xs) h2 := rfl
def nonV (v : AV) : Option Unit := match v with
  | .non => some ()
  | _ => none
@[simp] theorem nonV_n : nonV .non = some () := rfl
@[simp] theorem ev_make {n f : Nat} : ev cl (.make n f es) σ h = (evs cl es σ h).bind fun xs h1 => (cl f (.ref h1.length :: xs) (h1 ++ [.ins n []])).bind fun v h2 => (ofOpt (nonV v) h2).bind fun _ _ => .ok (.ref h1.length) h2 := by
  simp only [ev]
  congr 1; funext xs h1; congr 1; funext v h2
  cases v <;> rfl
@[simp] theorem ev_isi {t : Bt} : ev cl (.isi a t) σ h = (ev cl a σ h).bind fun x h1 => (ofOpt (tyA h1 x) h1).bind fun n h2 => .ok (.bl (isT n t)) h2 := rfl
@[simp] theorem ev_app : ev cl (.app a b) σ h = (ev cl a σ h).bind fun x h1 => (ofOpt (rdL h1 x) h1).bind fun _ _ => (ev cl b σ h1).bind fun v h2 => (ofOpt (appH h2 x v) h2).bind fun h3 _ => .ok .non h3 := rfl
@[simp] theorem ev_dnew {tk : Bool} : ev cl (.dnew tk) σ h = .ok (.ref h.length) (h ++ [if tk then .dt [] else .dk []]) := rfl
@[simp] theorem ev_din {n : Bool} : ev cl (.din n a b) σ h = (ev cl a σ h).bind fun y h1 => (ev cl b σ h1).bind fun x h2 => (ofOpt (dLook h2 x y) h2).bind fun o h3 => .ok (.bl (if n then !o.isSome else o.isSome)) h3 := rfl
@[simp] theorem ev_dget : ev cl (.dget a b) σ h = (ev cl a σ h).bind fun x h1 => (ev cl b σ h1).bind fun y h2 => (ofOpt (dLook h2 x y) h2).bind fun o h3 => ofOpt o h3 := rfl
@[simp] theorem ev_inS {n : Bool} : ev cl (.inS n a b) σ h = (ev cl a σ h).bind fun x h1 => (ev cl b σ h1).bind fun y h2 => (ofOpt (inQ h2 x y) h2).bind fun c h3 => .ok (.bl (if n then !c else c)) h3 := rfl
@[simp] theorem ev_isiT {ts : List Bt} : ev cl (.isiT a ts) σ h = (ev cl a σ h).bind fun x h1 => (ofOpt (tyA h1 x) h1).bind fun n h2 => .ok (.bl (ts.any fun t => isT n t)) h2 := rfl
@[simp] theorem ev_strD : ev cl (.strD a) σ h = (ev cl a σ h).bind fun x h1 => (ofOpt (strV h1 x) h1).bind fun t h2 => .ok (.str t) h2 := rfl
@[simp] theorem ev_isc {n : Nat} {yes no : List Nat} : ev cl (.isc a n yes no) σ h = (ev cl a σ h).bind fun x h1 => (ofOpt (iscV h1 x yes no) h1).bind fun c h2 => .ok (.bl c) h2 := rfl
@[simp] theorem ev_orL : ev cl (.orL a b) σ h = (ev cl a σ h).bind fun x h1 => (ofOpt (truth h1 x) h1).bind fun c h2 => ifB c (if keepable x = true then .ok x h2 else .stuck) (ev cl b σ h2) := by
  simp only [ev]
  congr 1
def tupV (v : AV) : Option (List AV) := match v with
  | .tup xs => some xs
  | _ => none
@[simp] theorem tupV_t : tupV (.tup xs) = some xs := rfl
@[simp] theorem ex_asgF {ts : List (Nat × Str × List Nat)} : ex cl W (.asgF ts a) σ h = (ev cl a σ h).bind fun v h1 => (ofOpt (tupV v) h1).bind fun vs _ => (ofOpt (setFs ts vs σ h1) h1).bind fun h2 _ => .ok (.nx σ) h2 := by
  simp only [ex]
  congr 1; funext v h1
  cases v <;> rfl
@[simp] theorem setFs_nil : setFs [] [] σ h = some h := rfl
def slotK (n : Nat) (σ : AS) : Option AV := match σ[n]? with
  | some (some v) => if keepable v then some v else none
  | _ => none
@[simp] theorem slotK_0 {v : AV} {r : AS} : slotK 0 (some v :: r) = if keepable v = true then some v else none := id rfl
@[simp] theorem slotK_succ {n : Nat} {x : Option AV} {r : AS} : slotK (n + 1) (x :: r) = slotK n r := rfl
@[simp] theorem setFs_cons {n : Nat} {f : Str} {cs : List Nat} {ts : List (Nat × Str × List Nat)} {v : AV} : setFs ((n, f, cs) :: ts) (v :: xs) σ h = (slotK n σ).bind fun x => (setFldV h x f cs v).bind fun h1 => setFs ts xs σ h1 := by
  simp only [setFs, slotK]
  cases σ[n]? with
  | none => rfl
  | some o =>
    cases o with
    | none => rfl
    | some x =>
      cases kx : keepable x with
      | false => simp [kx]
      | true =>
        simp only [kx, if_true, Option.bind_some]
        cases setFldV h x f cs v <;> rfl
@[simp] theorem ex_dput : ex cl W (.dput a b c) σ h = (ev cl c σ h).bind fun v h1 => (ev cl a σ h1).bind fun x h2 => (ev cl b σ h2).bind fun y h3 => (ofOpt (dPut h3 x y v) h3).bind fun h4 _ => .ok (.nx σ) h4 := rfl
@[simp] theorem ex_extOwn {n : Nat} : ex cl W (.extOwn n a) σ h = (ofOpt (ownS n σ) h).bind fun xs _ => (ev cl a σ h).bind fun v h1 => (ofOpt (rdM h1 v) h1).bind fun ys _ => if xs.length + ys.length ≤ lim then .ok (.nx (σ.set n (some (.own (xs ++ ys))))) h1 else .stuck := by
  simp only [ex, ownS]
  cases e : σ[n]? with
  | none => rfl
  | some o => cases o with
    | none => rfl
    | some v =>
      cases v <;> first | rfl | skip
      simp only [ofOpt_some, bind_ok]
      congr 1; funext v h1
      cases rdM h1 v <;> rfl
def pubS (n : Nat) (σ : AS) (h : AH) : AS × AH := match σ[n]? with
  | some (some (.own xs)) => (σ.set n (some (.ref h.length)), h ++ [.lst xs])
  | _ => (σ, h)
@[simp] theorem ex_pub {n : Nat} : ex cl W (.pub n) σ h = .ok (.nx (pubS n σ h).1) (pubS n σ h).2 := by
  simp only [ex, pubS]
  cases σ[n]? with
  | none => rfl
  | some o => cases o with
    | none => rfl
    | some v => cases v <;> rfl
@[simp] theorem pub_own0 {ρ : AS} : pubS 0 (some (.own xs) :: ρ) h = (some (.ref h.length) :: ρ, h ++ [.lst xs]) := rfl
@[simp] theorem pub_succ {n : Nat} {x : Option AV} {ρ : AS} : pubS (n + 1) (x :: ρ) h = (x :: (pubS n ρ h).1, (pubS n ρ h).2) := by
  unfold pubS
  simp only [List.getElem?_cons_succ]
  cases ρ[n]? with
  | none => rfl
  | some o => cases o with
    | none => rfl
    | some v => cases v <;> rfl
def rng3V (x y z : AV) (h : AH) : Res Wk := match x, y, z with
  | .int i, .int j, .int k => if decide (k = -1) && rgOk i && rgOk j then .ok (wkRngC i k (i - j).toNat) h else .stuck
  | _, _, _ => .stuck
@[simp] theorem rng3V_i {l : Int} : rng3V (.int i) (.int j) (.int l) h = if (decide (l = -1) && rgOk i && rgOk j) = true then .ok (wkRngC i l (i - j).toNat) h else .stuck := id rfl
@[simp] theorem evI_rng3 : evI cl (.rng3 a b c) σ h = (ev cl a σ h).bind fun x h1 => (ev cl b σ h1).bind fun y h2 => (ev cl c σ h2).bind fun z h3 => rng3V x y z h3 := by
  simp only [evI]
  congr 1
@[simp] theorem isB_b {p q : Bool} : cmp2v .isB (.bl p) (.bl q) h = some (p == q) := rfl
@[simp] theorem notB_b {p q : Bool} : cmp2v .notB (.bl p) (.bl q) h = some (!(p == q)) := rfl
theorem rdL_r {n : Nat} : rdL h (.ref n) = lstO h[n]? := by
  simp only [rdL, lstO]
  all_goals
    cases h[n]? with
    | none => rfl
    | some o => cases o <;> rfl
theorem rdQ_r {n : Nat} : rdQ h (.ref n) = lstO h[n]? := by
  show rdL h (.ref n) = _
  exact rdL_r
theorem rdM_r {n : Nat} : rdM h (.ref n) = lstO h[n]? := by
  show rdL h (.ref n) = _
  exact rdL_r
@[simp] theorem idxV_ref {n : Nat} : idxV (.ref n) (.int i) h = (ofOpt (lstO h[n]?) h).bind fun xs _ => ofOpt (atI xs i) h := by
  unfold idxV
  rw [rdQ_r]
  cases lstO h[n]? <;> rfl
end
end R

end

section
set_option Elab.async false
set_option linter.all false
/-! The runner, part R: loops over written items; items by their numbers. -/
namespace R
open PySem PySem.Spec L2
@[simp] theorem bind_assoc' {α β γ : Type} (r : Res α) (f : α → AH → Res β) (g : β → AH → Res γ) : (r.bind f).bind g = r.bind fun a h => (f a h).bind g := by cases r <;> rfl
def enumL (xs : List AV) : List AV := xs.mapIdx fun i x => .tup [.int i, x]
def zipL (xs ys : List AV) : List AV := List.zipWith (fun x y => .tup [x, y]) xs ys
theorem enumL_len {xs : List AV} : (enumL xs).length = xs.length := by simp [enumL]
@[simp] theorem enumL_get {xs : List AV} {i : Nat} : (enumL xs)[i]? = xs[i]?.map fun x => .tup [.int i, x] := by simp [enumL]
theorem zipL_len {xs ys : List AV} : (zipL xs ys).length = min xs.length ys.length := by simp [zipL]
theorem zipL_get {xs ys : List AV} {i : Nat} : (zipL xs ys)[i]? = match xs[i]?, ys[i]? with
  | some x, some y => some (.tup [x, y])
  | _, _ => none := by
  simp only [zipL, List.getElem?_zipWith]
  cases xs[i]? <;> cases ys[i]? <;> rfl
@[simp] theorem wkEnum_lst {xs : List AV} {h : AH} : wkEnum (.lst xs) h = some (wkL (enumL xs)) := by
  simp only [wkEnum, q_rdL_lst, Option.map_some, wkL, enumL_len, q_keepable_lst]
  congr 2
  funext _ i
  rw [enumL_get]
@[simp] theorem wkZip_lst {xs ys : List AV} {h : AH} : wkZip (.lst xs) (.lst ys) h = some (wkL (zipL xs ys)) := by
  simp only [wkZip, q_rdL_lst, wkL, zipL_len, q_keepable_lst, Bool.and_self]
  congr 2
  funext _ i
  rw [zipL_get]
  all_goals (cases xs[i]? <;> cases ys[i]? <;> rfl)
theorem forL {turn : AV → AS → AH → Res Fl} {items : List AV} (I : Nat → AS → AH → Prop) (step : ∀ i v σ h, items[i]? = some v → I i σ h → ∃ σ' h', turn v σ h = .ok (.nx σ') h' ∧ I (i + 1) σ' h') {σ : AS} {h : AH} (h0 : I 0 σ h) :
    ∃ σ' h', forGo (wkL items).item turn items.length 0 σ h = .ok (.nx σ') h' ∧ I items.length σ' h' := by
  have go : ∀ (k i : Nat) (σ : AS) (h : AH), i + k = items.length → I i σ h → ∃ σ' h', forGo (wkL items).item turn k i σ h = .ok (.nx σ') h' ∧ I items.length σ' h' := by
    intro k
    induction k with
    | zero =>
      intro i σ h e hi
      have e : i = items.length := e
      subst e
      exact ⟨σ, h, by unfold forGo; rw [wkL_item]; simp, hi⟩
    | succ k ih =>
      intro i σ h e hi
      have hlt : i < items.length := by omega
      obtain ⟨σ1, h1, e1, i1⟩ := step i items[i] σ h (List.getElem?_eq_getElem hlt) hi
      obtain ⟨σ2, h2, e2, i2⟩ := ih (i + 1) σ1 h1 (by omega) i1
      refine ⟨σ2, h2, ?_, i2⟩
      unfold forGo
      rw [wkL_item]
      simp only [List.getElem?_eq_getElem hlt, e1, bind_ok]
      rw [wkL_item] at e2
      exact e2
  exact go items.length 0 σ h (by simp) h0
theorem forLr {turn : AV → AS → AH → Res Fl} {items : List AV} (I : Nat → AS → AH → Prop) (Q : Nat → AV → AH → Prop) (step : ∀ i v σ h, items[i]? = some v → I i σ h → (∃ σ' h', turn v σ h = .ok (.nx σ') h' ∧ I (i + 1) σ' h') ∨ ∃ w h', turn v σ h = .ok (.rt w) h' ∧ Q i w h') {σ : AS} {h : AH} (h0 : I 0 σ h) :
    (∃ σ' h', forGo (wkL items).item turn items.length 0 σ h = .ok (.nx σ') h' ∧ I items.length σ' h') ∨ ∃ i w h', forGo (wkL items).item turn items.length 0 σ h = .ok (.rt w) h' ∧ i < items.length ∧ Q i w h' := by
  have go : ∀ (k i : Nat) (σ : AS) (h : AH), i + k = items.length → I i σ h → (∃ σ' h', forGo (wkL items).item turn k i σ h = .ok (.nx σ') h' ∧ I items.length σ' h') ∨ ∃ i' w h', forGo (wkL items).item turn k i σ h = .ok (.rt w) h' ∧ i' < items.length ∧ Q i' w h' := by
    intro k
    induction k with
    | zero =>
      intro i σ h e hi
      have e : i = items.length := e
      subst e
      exact .inl ⟨σ, h, by unfold forGo; rw [wkL_item]; simp, hi⟩
    | succ k ih =>
      intro i σ h e hi
      have hlt : i < items.length := by omega
      rcases step i items[i] σ h (List.getElem?_eq_getElem hlt) hi with ⟨σ1, h1, e1, i1⟩ | ⟨w, h1, e1, q⟩
      · have go1 : ∀ r, forGo (wkL items).item turn k (i + 1) σ1 h1 = r → forGo (wkL items).item turn (k + 1) i σ h = r := by
          intro r er
          unfold forGo
          rw [wkL_item] at er ⊢
          simp only [List.getElem?_eq_getElem hlt, e1, bind_ok]
          exact er
        rcases ih (i + 1) σ1 h1 (by omega) i1 with ⟨σ2, h2, e2, i2⟩ | ⟨i', w, h2, e2, q⟩
        · exact .inl ⟨σ2, h2, go1 _ e2, i2⟩
        · exact .inr ⟨i', w, h2, go1 _ e2, q⟩
      · refine .inr ⟨i, w, h1, ?_, hlt, q⟩
        unfold forGo
        rw [wkL_item]
        simp only [List.getElem?_eq_getElem hlt, e1, bind_ok]
  exact go items.length 0 σ h (by simp) h0
theorem compL {turn : AV → AH → Res (Option AV)} {items : List AV} (I : Nat → List AV → AH → Prop) (step : ∀ i v acc h, items[i]? = some v → I i acc h → ∃ o h', turn v h = .ok o h' ∧ I (i + 1) (acc ++ o.toList) h') {h : AH} (h0 : I 0 [] h) :
    ∃ acc h', compGo (wkL items).item turn items.length 0 [] h = .ok acc h' ∧ I items.length acc h' := by
  have go : ∀ (k i : Nat) (acc : List AV) (h : AH), i + k = items.length → I i acc h → ∃ acc' h', compGo (wkL items).item turn k i acc h = .ok acc' h' ∧ I items.length acc' h' := by
    intro k
    induction k with
    | zero =>
      intro i acc h e hi
      have e : i = items.length := e
      subst e
      exact ⟨acc, h, by unfold compGo; rw [wkL_item]; simp, hi⟩
    | succ k ih =>
      intro i acc h e hi
      have hlt : i < items.length := by omega
      obtain ⟨o, h1, e1, i1⟩ := step i items[i] acc h (List.getElem?_eq_getElem hlt) hi
      obtain ⟨acc2, h2, e2, i2⟩ := ih (i + 1) (acc ++ o.toList) h1 (by omega) i1
      refine ⟨acc2, h2, ?_, i2⟩
      unfold compGo
      rw [wkL_item] at e2 ⊢
      simp only [List.getElem?_eq_getElem hlt, e1, bind_ok]
      cases o with
      | none => simpa using e2
      | some y => exact e2
  exact go items.length 0 [] h (by simp) h0
/-- a comprehension whose turns leave the heap, each with an item -/
theorem compMap {turn : AV → AH → Res (Option AV)} {items : List AV} {h : AH} (g : AV → AV) (ht : ∀ v ∈ items, turn v h = .ok (some (g v)) h) : compGo (wkL items).item turn items.length 0 [] h = .ok (items.map g) h := by
  have := compGo_pure (xs := items) (turn := turn) (h := h) (fun v => some (g v)) ht
  rw [List.filterMap_eq_map'] at this
  exact this
theorem compFil {turn : AV → AH → Res (Option AV)} {items : List AV} {h : AH} (g : AV → Option AV) (ht : ∀ v ∈ items, turn v h = .ok (g v) h) : compGo (wkL items).item turn items.length 0 [] h = .ok (items.filterMap g) h := compGo_pure g ht
/-! ranges as written items -/
def rngL (lo : Int) (n : Nat) : List AV := (List.range n).map fun (i : Nat) => .int (lo + (i : Int))
def rngCL (lo c : Int) (n : Nat) : List AV := (List.range n).map fun (i : Nat) => .int (lo + (i : Int) * c)
@[simp] theorem wkRng_L {lo : Int} {n : Nat} : wkRng lo n = wkL (rngL lo n) := by
  unfold wkRng wkL rngL
  simp only [List.length_map, List.length_range]
  congr 1
  funext _ i
  simp only [List.getElem?_map, List.getElem?_range]
  by_cases h : i < n <;> simp [h]
@[simp] theorem wkRngC_L {lo c : Int} {n : Nat} : wkRngC lo c n = wkL (rngCL lo c n) := by
  unfold wkRngC wkL rngCL
  simp only [List.length_map, List.length_range]
  congr 1
  funext _ i
  simp only [List.getElem?_map, List.getElem?_range]
  by_cases h : i < n <;> simp [h]
@[simp] theorem rngL_len {lo : Int} {n : Nat} : (rngL lo n).length = n := by simp [rngL]
@[simp] theorem rngCL_len {lo c : Int} {n : Nat} : (rngCL lo c n).length = n := by simp [rngCL]
theorem rngL_get {lo : Int} {n i : Nat} {v : AV} (h : (rngL lo n)[i]? = some v) : i < n ∧ v = .int (lo + i) := by
  simp only [rngL, List.getElem?_map] at h
  by_cases hi : i < n
  · simp [List.getElem?_range, hi] at h
    exact ⟨hi, h.symm⟩
  · simp [List.getElem?_range, hi] at h
theorem rngCL_get {lo c : Int} {n i : Nat} {v : AV} (h : (rngCL lo c n)[i]? = some v) : i < n ∧ v = .int (lo + i * c) := by
  simp only [rngCL, List.getElem?_map] at h
  by_cases hi : i < n
  · simp [List.getElem?_range, hi] at h
    exact ⟨hi, h.symm⟩
  · simp [List.getElem?_range, hi] at h
/-! while: k turns are left -/
theorem whileL {test : AS → AH → Res Bool} {turn : AS → AH → Res Fl} (I : Nat → AS → AH → Prop) (Q : AS → AH → Prop) (fin : ∀ σ h, I 0 σ h → ∃ h', test σ h = .ok false h' ∧ Q σ h')
    (step : ∀ k σ h, I (k + 1) σ h → ∃ h1 σ' h', test σ h = .ok true h1 ∧ turn σ h1 = .ok (.nx σ') h' ∧ I k σ' h') : ∀ (k n : Nat) (σ : AS) (h : AH), k < n → I k σ h → ∃ σ' h', whileGo test turn n σ h = .ok (.nx σ') h' ∧ Q σ' h'
  | 0, 0, _, _, hn, _ => absurd hn (Nat.lt_irrefl _)
  | 0, n + 1, σ, h, _, hi => by
    obtain ⟨h', e, q⟩ := fin σ h hi
    exact ⟨σ, h', by unfold whileGo; rw [e]; rfl, q⟩
  | k + 1, 0, _, _, hn, _ => absurd hn (by omega)
  | k + 1, n + 1, σ, h, hn, hi => by
    obtain ⟨h1, σ1, h2, e1, e2, i2⟩ := step k σ h hi
    obtain ⟨σ3, h3, e3, q⟩ := whileL I Q fin step k n σ1 h2 (by omega) i2
    exact ⟨σ3, h3, by unfold whileGo; rw [e1]; simp only [bind_ok, e2]; exact e3, q⟩
/-- while, with a turn that may end the def -/
theorem whileLr {test : AS → AH → Res Bool} {turn : AS → AH → Res Fl} (I : Nat → AS → AH → Prop) (Q : Fl → AH → Prop) (fin : ∀ σ h, I 0 σ h → (∃ h', test σ h = .ok false h' ∧ Q (.nx σ) h') ∨ ∃ h1 w h', test σ h = .ok true h1 ∧ turn σ h1 = .ok (.rt w) h' ∧ Q (.rt w) h')
    (step : ∀ k σ h, I (k + 1) σ h → ∃ h1 σ' h', test σ h = .ok true h1 ∧ turn σ h1 = .ok (.nx σ') h' ∧ I k σ' h') : ∀ (k n : Nat) (σ : AS) (h : AH), k < n → I k σ h → ∃ f h', whileGo test turn n σ h = .ok f h' ∧ Q f h'
  | 0, 0, _, _, hn, _ => absurd hn (Nat.lt_irrefl _)
  | 0, n + 1, σ, h, _, hi => by
    rcases fin σ h hi with ⟨h', e, q⟩ | ⟨h1, w, h', e1, e2, q⟩
    · exact ⟨.nx σ, h', by unfold whileGo; rw [e]; rfl, q⟩
    · exact ⟨.rt w, h', by unfold whileGo; rw [e1]; simp only [bind_ok, e2], q⟩
  | k + 1, 0, _, _, hn, _ => absurd hn (by omega)
  | k + 1, n + 1, σ, h, hn, hi => by
    obtain ⟨h1, σ1, h2, e1, e2, i2⟩ := step k σ h hi
    obtain ⟨f, h3, e3, q⟩ := whileLr I Q fin step k n σ1 h2 (by omega) i2
    exact ⟨f, h3, by unfold whileGo; rw [e1]; simp only [bind_ok, e2]; exact e3, q⟩
/-! the same, for a goal -/
theorem for_use {α : Type} {turn : AV → AS → AH → Res Fl} {items : List AV} {m : Nat} {σ : AS} {h : AH} {k : Fl → AH → Res α} {r : Res α} (I : Nat → AS → AH → Prop) (hm : items.length = m) (h0 : I 0 σ h)
    (step : ∀ i v σ h, items[i]? = some v → I i σ h → ∃ σ' h', turn v σ h = .ok (.nx σ') h' ∧ I (i + 1) σ' h') (fin : ∀ σ' h', I m σ' h' → k (.nx σ') h' = r) : (forGo (wkL items).item turn m 0 σ h).bind k = r := by
  subst hm
  obtain ⟨σ', h', e, q⟩ := forL I step h0
  rw [e]
  exact fin σ' h' q
theorem for_useR {α : Type} {turn : AV → AS → AH → Res Fl} {items : List AV} {m : Nat} {σ : AS} {h : AH} {k : Fl → AH → Res α} {r : Res α} (I : Nat → AS → AH → Prop) (Q : Nat → AV → AH → Prop) (hm : items.length = m) (h0 : I 0 σ h)
    (step : ∀ i v σ h, items[i]? = some v → I i σ h → (∃ σ' h', turn v σ h = .ok (.nx σ') h' ∧ I (i + 1) σ' h') ∨ ∃ w h', turn v σ h = .ok (.rt w) h' ∧ Q i w h') (fin : ∀ σ' h', I m σ' h' → k (.nx σ') h' = r) (ret : ∀ i w h', i < m → Q i w h' → k (.rt w) h' = r) : (forGo (wkL items).item turn m 0 σ h).bind k = r := by
  subst hm
  rcases forLr I Q step h0 with ⟨σ', h', e, q⟩ | ⟨i, w, h', e, hi, q⟩
  · rw [e]; exact fin σ' h' q
  · rw [e]; exact ret i w h' hi q
theorem comp_use {α : Type} {turn : AV → AH → Res (Option AV)} {items : List AV} {m : Nat} {h : AH} {k : List AV → AH → Res α} {r : Res α} (I : Nat → List AV → AH → Prop) (hm : items.length = m) (h0 : I 0 [] h)
    (step : ∀ i v acc h, items[i]? = some v → I i acc h → ∃ o h', turn v h = .ok o h' ∧ I (i + 1) (acc ++ o.toList) h') (fin : ∀ acc h', I m acc h' → k acc h' = r) : (compGo (wkL items).item turn m 0 [] h).bind k = r := by
  subst hm
  obtain ⟨acc, h', e, q⟩ := compL I step h0
  rw [e]
  exact fin acc h' q
theorem comp_map {α : Type} {turn : AV → AH → Res (Option AV)} {items : List AV} {m : Nat} {h : AH} {k : List AV → AH → Res α} {r : Res α} (ys : List AV) (hm : items.length = m) (hl : ys.length = m)
    (step : ∀ (i : Nat) (v y : AV), items[i]? = some v → ys[i]? = some y → turn v h = .ok (some y) h) (fin : k ys h = r) : (compGo (wkL items).item turn m 0 [] h).bind k = r := by
  refine comp_use (fun i acc h' => acc = ys.take i ∧ h' = h) hm ⟨by simp, rfl⟩ (fun i v acc h' hv ⟨e1, e2⟩ => ?_) (fun acc h' ⟨e1, e2⟩ => ?_)
  · subst e1; subst e2
    have hi : i < ys.length := by rw [hl, ← hm]; exact (List.getElem?_eq_some_iff.mp hv).1
    have hy : ys[i]? = some ys[i] := List.getElem?_eq_getElem hi
    exact ⟨some ys[i], _, step i v _ hv hy, by rw [List.take_succ, hy], rfl⟩
  · subst e1; subst e2
    rw [← hl, List.take_length]
    exact fin
/-! items by their numbers -/
theorem ixN_nat {n i : Nat} (h : i < n) : ixN n (i : Int) = some i := by
  unfold ixN
  rw [if_pos (by omega), if_pos (by omega)]
  simp
theorem atI_nat {α : Type} {xs : List α} {i : Nat} (h : i < xs.length) : atI xs (i : Int) = xs[i]? := by
  unfold atI
  rw [ixN_nat h]
  rfl
@[simp] theorem atI_z {α : Type} {x : α} {xs : List α} : atI (x :: xs) 0 = some x := by
  have := atI_nat (xs := x :: xs) (i := 0) (by simp)
  simpa using this
end R
namespace R
open PySem PySem.Spec L2
/-! fields, one after another -/
@[simp] theorem ofS_inj {a b : String} : Str.ofString a = Str.ofString b ↔ a = b := by
  refine ⟨fun e => ?_, fun e => by rw [e]⟩
  rw [Str.ofString_eq_toList, Str.ofString_eq_toList] at e
  have e := congrArg Str.cps e
  have e : (a.toList.map Char.toNat) = (b.toList.map Char.toNat) := by simpa using congrArg Array.toList e
  have := (List.map_inj_right (fun x y h => Char.ext (by
    have : x.val.toNat = y.val.toNat := h
    exact UInt32.toNat_inj.mp this))).mp e
  exact String.toList_inj.mp this
@[simp] theorem putFA_nil {f : Str} {v : AV} : putFA f v [] = [(f, v)] := rfl
@[simp] theorem putFA_cons {f g : Str} {v x : AV} {r : List (Str × AV)} : putFA f v ((g, x) :: r) = if g = f then (g, v) :: r else (g, x) :: putFA f v r := id rfl
@[simp] theorem lookup_nil' {f : Str} : List.lookup f ([] : List (Str × AV)) = none := rfl
@[simp] theorem lookup_cons' {f g : Str} {x : AV} {r : List (Str × AV)} : List.lookup f ((g, x) :: r) = if f = g then some x else List.lookup f r := by
  rw [List.lookup_cons]
  by_cases e : f = g
  · subst e; simp
  · have : (f == g) = false := by simpa using e
    rw [this, if_neg e]
@[simp] theorem app_get {h r : AH} {x : AO} : (h ++ x :: r)[h.length]? = some x := by simp
@[simp] theorem app_set {h r : AH} {x y : AO} : (h ++ x :: r).set h.length y = h ++ y :: r := by simp
end R
namespace R
open PySem PySem.Spec L2
/-! lists that are handed in: settled, or of the heap -/
def LV (h : AH) (v : AV) (xs : List AV) : Prop := v = .lst xs ∨ ∃ n, v = .ref n ∧ h[n]? = some (.lst xs)
theorem LV.mono {h h' : AH} {v : AV} {xs : List AV} (l : LV h v xs) (e : ∀ n, n < h.length → h'[n]? = h[n]?) : LV h' v xs := by
  rcases l with rfl | ⟨n, rfl, q⟩
  · exact .inl rfl
  · exact .inr ⟨n, rfl, by rw [e n (List.getElem?_eq_some_iff.mp q).1]; exact q⟩
theorem LV.app {h r : AH} {v : AV} {xs : List AV} (l : LV h v xs) : LV (h ++ r) v xs := l.mono fun n hn => List.getElem?_append_left hn
section
variable {h : AH} {v : AV} {xs : List AV}
theorem LV.rdL (l : LV h v xs) : rdL h v = some xs := by
  rcases l with rfl | ⟨n, rfl, q⟩
  · rfl
  · rw [rdL_r, q]; rfl
theorem LV.rdQ (l : LV h v xs) : rdQ h v = some xs := by
  rcases l with rfl | ⟨n, rfl, q⟩
  · rfl
  · rw [rdQ_r, q]; rfl
theorem LV.rdM (l : LV h v xs) : rdM h v = some xs := by
  rcases l with rfl | ⟨n, rfl, q⟩
  · rfl
  · rw [rdM_r, q]; rfl
theorem LV.kp (l : LV h v xs) : keepable v = true := by rcases l with rfl | ⟨n, rfl, q⟩ <;> rfl
theorem LV.pk (l : LV h v xs) : peeked v = v := by rcases l with rfl | ⟨n, rfl, q⟩ <;> rfl
theorem LV.ip (l : LV h v xs) : isPeek v = false := by rcases l with rfl | ⟨n, rfl, q⟩ <;> rfl
theorem LV.ty (l : LV h v xs) : tyA h v = some "list" := by
  rcases l with rfl | ⟨n, rfl, q⟩
  · rfl
  · simp only [tyA, q]
theorem LV.len {k : Kd} (l : LV h v xs) : bltv .len k [v] h = .ok (.int xs.length) h := by simp only [bltv, l.rdQ]
theorem LV.list {k : Kd} (l : LV h v xs) : bltv .list k [v] h = mkL k xs h := by simp only [bltv, l.rdQ]
theorem LV.idx {i : Int} (l : LV h v xs) : idxV v (.int i) h = ofOpt (atI xs i) h := by simp only [idxV, l.rdQ]
theorem LV.each (l : LV h v xs) : ∃ w, wkEach v h = some w ∧ w.n = xs.length ∧ w.st = true ∧ ∀ h' i, LV h' v xs → w.item h' i = some xs[i]? := by
  refine ⟨⟨xs.length, keepable v, fun h i => (_root_.R.rdQ h v).map (·[i]?)⟩, ?_, rfl, l.kp, fun h' i l' => ?_⟩
  · simp only [wkEach, l.rdQ, Option.map_some]
  · show (_root_.R.rdQ h' v).map _ = _
    rw [l'.rdQ]; rfl
theorem LV.enum (l : LV h v xs) : ∃ w, wkEnum v h = some w ∧ w.n = xs.length ∧ w.st = true ∧ ∀ h' i, LV h' v xs → w.item h' i = some (enumL xs)[i]? := by
  refine ⟨⟨xs.length, keepable v, fun h i => (_root_.R.rdL h v).map fun xs => xs[i]?.map fun x => .tup [.int i, x]⟩, ?_, rfl, l.kp, fun h' i l' => ?_⟩
  · simp only [wkEnum, l.rdL, Option.map_some]
  · show (_root_.R.rdL h' v).map _ = _
    rw [l'.rdL, enumL_get]; rfl
theorem LV.zip {w : AV} {ys : List AV} (l : LV h v xs) (l2 : LV h w ys) : ∃ z, wkZip v w h = some z ∧ z.n = min xs.length ys.length ∧ z.st = true ∧ ∀ h' i, LV h' v xs → LV h' w ys → z.item h' i = some (zipL xs ys)[i]? := by
  refine ⟨⟨min xs.length ys.length, keepable v && keepable w, fun h i => match _root_.R.rdL h v, _root_.R.rdL h w with
    | some xs, some ys => some (match xs[i]?, ys[i]? with
      | some x, some y => some (.tup [x, y])
      | _, _ => none)
    | _, _ => none⟩, ?_, rfl, by simp [l.kp, l2.kp], fun h' i l' l2' => ?_⟩
  · simp only [wkZip, l.rdL, l2.rdL]
    all_goals rfl
  · show (match _root_.R.rdL h' v, _root_.R.rdL h' w with
    | some xs, some ys => some (match xs[i]?, ys[i]? with
      | some x, some y => some (AV.tup [x, y])
      | _, _ => none)
    | _, _ => none) = _
    rw [l'.rdL, l2'.rdL, zipL_get]
end
theorem for_useW {α : Type} {item : AH → Nat → Option (Option AV)} {turn : AV → AS → AH → Res Fl} {items : List AV} {m : Nat} {σ : AS} {h : AH} {k : Fl → AH → Res α} {r : Res α} (I : Nat → AS → AH → Prop) (hm : items.length = m) (h0 : I 0 σ h)
    (hit : ∀ i σ h, I i σ h → item h i = some items[i]?) (step : ∀ i v σ h, items[i]? = some v → I i σ h → ∃ σ' h', turn v σ h = .ok (.nx σ') h' ∧ I (i + 1) σ' h') (fin : ∀ σ' h', I m σ' h' → k (.nx σ') h' = r) : (forGo item turn m 0 σ h).bind k = r := by
  subst hm
  have go : ∀ (j i : Nat) (σ : AS) (h : AH), i + j = items.length → I i σ h → ∃ σ' h', forGo item turn j i σ h = .ok (.nx σ') h' ∧ I items.length σ' h' := by
    intro j
    induction j with
    | zero =>
      intro i σ h e hi
      have e : i = items.length := e
      subst e
      exact ⟨σ, h, by unfold forGo; rw [hit _ _ _ hi]; simp, hi⟩
    | succ j ih =>
      intro i σ h e hi
      have hlt : i < items.length := by omega
      obtain ⟨σ1, h1, e1, i1⟩ := step i items[i] σ h (List.getElem?_eq_getElem hlt) hi
      obtain ⟨σ2, h2, e2, i2⟩ := ih (i + 1) σ1 h1 (by omega) i1
      refine ⟨σ2, h2, ?_, i2⟩
      unfold forGo
      rw [hit _ _ _ hi]
      simp only [List.getElem?_eq_getElem hlt, e1, bind_ok]
      exact e2
  obtain ⟨σ', h', e, q⟩ := go items.length 0 σ h (by simp) h0
  rw [e]
  exact fin σ' h' q
theorem comp_useW {α : Type} {item : AH → Nat → Option (Option AV)} {turn : AV → AH → Res (Option AV)} {items : List AV} {m : Nat} {h : AH} {k : List AV → AH → Res α} {r : Res α} (I : Nat → List AV → AH → Prop) (hm : items.length = m) (h0 : I 0 [] h)
    (hit : ∀ i acc h, I i acc h → item h i = some items[i]?) (step : ∀ i v acc h, items[i]? = some v → I i acc h → ∃ o h', turn v h = .ok o h' ∧ I (i + 1) (acc ++ o.toList) h') (fin : ∀ acc h', I m acc h' → k acc h' = r) : (compGo item turn m 0 [] h).bind k = r := by
  subst hm
  have go : ∀ (j i : Nat) (acc : List AV) (h : AH), i + j = items.length → I i acc h → ∃ acc' h', compGo item turn j i acc h = .ok acc' h' ∧ I items.length acc' h' := by
    intro j
    induction j with
    | zero =>
      intro i acc h e hi
      have e : i = items.length := e
      subst e
      exact ⟨acc, h, by unfold compGo; rw [hit _ _ _ hi]; simp, hi⟩
    | succ j ih =>
      intro i acc h e hi
      have hlt : i < items.length := by omega
      obtain ⟨o, h1, e1, i1⟩ := step i items[i] acc h (List.getElem?_eq_getElem hlt) hi
      obtain ⟨acc2, h2, e2, i2⟩ := ih (i + 1) (acc ++ o.toList) h1 (by omega) i1
      refine ⟨acc2, h2, ?_, i2⟩
      unfold compGo
      rw [hit _ _ _ hi]
      simp only [List.getElem?_eq_getElem hlt, e1, bind_ok]
      cases o with
      | none => simpa using e2
      | some y => exact e2
  obtain ⟨acc, h', e, q⟩ := go items.length 0 [] h (by simp) h0
  rw [e]
  exact fin acc h' q
theorem comp_mapW {α : Type} {item : AH → Nat → Option (Option AV)} {turn : AV → AH → Res (Option AV)} {items : List AV} {m : Nat} {h : AH} {k : List AV → AH → Res α} {r : Res α} (ys : List AV) (hm : items.length = m) (hl : ys.length = m) (hit : ∀ i, item h i = some items[i]?)
    (step : ∀ (i : Nat) (v y : AV), items[i]? = some v → ys[i]? = some y → turn v h = .ok (some y) h) (fin : k ys h = r) : (compGo item turn m 0 [] h).bind k = r := by
  refine comp_useW (items := items) (fun i acc h' => acc = ys.take i ∧ h' = h) hm ⟨by simp, rfl⟩ (fun i acc h' ⟨_, e2⟩ => by rw [e2]; exact hit i) (fun i v acc h' hv ⟨e1, e2⟩ => ?_) (fun acc h' ⟨e1, e2⟩ => ?_)
  · subst e1; subst e2
    have hi : i < ys.length := by rw [hl, ← hm]; exact (List.getElem?_eq_some_iff.mp hv).1
    have hy : ys[i]? = some ys[i] := List.getElem?_eq_getElem hi
    exact ⟨some ys[i], _, step i v _ hv hy, by rw [List.take_succ, hy], rfl⟩
  · subst e1; subst e2
    rw [← hl, List.take_length]
    exact fin
end R
namespace R
@[simp] theorem wipeA_nil {σ : AS} : wipeA σ [] = σ := rfl
@[simp] theorem wipeA_cons {σ : AS} {v : Nat} {vs : List Nat} : wipeA σ (v :: vs) = (wipeA σ vs).set v none := rfl
theorem sum_lst {k : Kd} {h : AH} {ns : List Int} : bltv .sum k [.lst (ns.map .int)] h = .ok (.int ns.sum) h := sum_q rfl
theorem all_lst {k : Kd} {h : AH} {ns : List Bool} : bltv .all k [.lst (ns.map .bl)] h = .ok (.bl (ns.all id)) h := all_q rfl
theorem any_lst {k : Kd} {h : AH} {ns : List Bool} : bltv .any k [.lst (ns.map .bl)] h = .ok (.bl (ns.any id)) h := any_q rfl
end R
namespace R
@[simp] theorem mkL_ow0 {h : AH} : mkL .ow [] h = .ok (.own []) h := mkL_ow (by decide)
@[simp] theorem mkL_fz0 {h : AH} : mkL .fz [] h = .ok (.lst []) h := mkL_fz (by decide)
@[simp] theorem mkL_hp0 {h : AH} : mkL .hp [] h = .ok (.ref h.length) (h ++ [.lst []]) := mkL_hp (by decide)
@[simp] theorem mkL_fz1 {h : AH} {a : AV} : mkL .fz [a] h = .ok (.lst [a]) h := mkL_fz (by show 1 ≤ lim; decide)
@[simp] theorem mkL_hp1 {h : AH} {a : AV} : mkL .hp [a] h = .ok (.ref h.length) (h ++ [.lst [a]]) := mkL_hp (by show 1 ≤ lim; decide)
@[simp] theorem mkL_fz2 {h : AH} {a b : AV} : mkL .fz [a, b] h = .ok (.lst [a, b]) h := mkL_fz (by show 2 ≤ lim; decide)
end R
namespace R
theorem lim_big : 100000 ≤ lim := by decide
@[simp] theorem le_lim {n : Nat} (h : n ≤ 1000) : (n ≤ lim) = True := by
  have := lim_big
  simp only [eq_iff_iff, iff_true]
  omega
end R
namespace R
theorem nx_ex {r : Res Fl} {I : AS → AH → Prop} (h : ∃ a h', r = .ok a h' ∧ ∃ σ', a = .nx σ' ∧ I σ' h') : ∃ σ' h', r = .ok (.nx σ') h' ∧ I σ' h' := by
  obtain ⟨a, h', e, σ', ea, i⟩ := h
  subst ea
  exact ⟨σ', h', e, i⟩
theorem for_ex {α : Type} {turn : AV → AS → AH → Res Fl} {items : List AV} {m : Nat} {σ : AS} {h : AH} {k : Fl → AH → Res α} {Q : α → AH → Prop} (I : Nat → AS → AH → Prop) (hm : items.length = m) (h0 : I 0 σ h)
    (step : ∀ i v σ h, items[i]? = some v → I i σ h → ∃ σ' h', turn v σ h = .ok (.nx σ') h' ∧ I (i + 1) σ' h') (fin : ∀ σ' h', I m σ' h' → ∃ a h'', k (.nx σ') h' = .ok a h'' ∧ Q a h'') : ∃ a h'', (forGo (wkL items).item turn m 0 σ h).bind k = .ok a h'' ∧ Q a h'' := by
  subst hm
  obtain ⟨σ', h', e, q⟩ := forL I step h0
  rw [e]
  exact fin σ' h' q
theorem comp_ex {α : Type} {turn : AV → AH → Res (Option AV)} {items : List AV} {m : Nat} {h : AH} {k : List AV → AH → Res α} {Q : α → AH → Prop} (I : Nat → List AV → AH → Prop) (hm : items.length = m) (h0 : I 0 [] h)
    (step : ∀ i v acc h, items[i]? = some v → I i acc h → ∃ o h', turn v h = .ok o h' ∧ I (i + 1) (acc ++ o.toList) h') (fin : ∀ acc h', I m acc h' → ∃ a h'', k acc h' = .ok a h'' ∧ Q a h'') : ∃ a h'', (compGo (wkL items).item turn m 0 [] h).bind k = .ok a h'' ∧ Q a h'' := by
  subst hm
  obtain ⟨acc, h', e, q⟩ := compL I step h0
  rw [e]
  exact fin acc h' q
end R
namespace R
theorem while_ex {α : Type} {test : AS → AH → Res Bool} {turn : AS → AH → Res Fl} {W N : Nat} {σ : AS} {h : AH} {k : Fl → AH → Res α} {Q : α → AH → Prop} (I : Nat → AS → AH → Prop) (hN : N < W) (h0 : I N σ h)
    (step : ∀ j σ h, I (j + 1) σ h → ∃ h1 σ' h', test σ h = .ok true h1 ∧ turn σ h1 = .ok (.nx σ') h' ∧ I j σ' h')
    (fin : ∀ σ h, I 0 σ h → (∃ h', test σ h = .ok false h' ∧ ∃ a h'', k (.nx σ) h' = .ok a h'' ∧ Q a h'') ∨ ∃ h1 w h', test σ h = .ok true h1 ∧ turn σ h1 = .ok (.rt w) h' ∧ ∃ a h'', k (.rt w) h' = .ok a h'' ∧ Q a h'') :
    ∃ a h'', (whileGo test turn W σ h).bind k = .ok a h'' ∧ Q a h'' := by
  obtain ⟨f, h', e, a, h'', e2, q⟩ := whileLr I (fun f h' => ∃ a h'', k f h' = .ok a h'' ∧ Q a h'') (fun σ h i => (fin σ h i).imp (fun ⟨h', e, q⟩ => ⟨h', e, q⟩) fun ⟨h1, w, h', e1, e2, q⟩ => ⟨h1, w, h', e1, e2, q⟩) step N W σ h hN h0
  rw [e]
  exact ⟨a, h'', e2, q⟩
end R
namespace R
theorem while_use {α : Type} {test : AS → AH → Res Bool} {turn : AS → AH → Res Fl} {W N : Nat} {σ : AS} {h : AH} {k : Fl → AH → Res α} {r : Res α} (I : Nat → AS → AH → Prop) (hN : N < W) (h0 : I N σ h)
    (step : ∀ j σ h, I (j + 1) σ h → ∃ h1 σ' h', test σ h = .ok true h1 ∧ turn σ h1 = .ok (.nx σ') h' ∧ I j σ' h')
    (fin : ∀ σ h, I 0 σ h → ∃ h', test σ h = .ok false h' ∧ k (.nx σ) h' = r) : (whileGo test turn W σ h).bind k = r := by
  obtain ⟨σ', h', e, q⟩ := whileL I (fun σ h => k (.nx σ) h = r) fin step N W σ h hN h0
  rw [e]
  exact q
end R
namespace R
theorem nox_of {α : Type} {r : Res α} {a : α} {h : AH} (e : r = .ok a h) : r.nox = .ok a h := by rw [e]; rfl
theorem comp_fil {α : Type} {turn : AV → AH → Res (Option AV)} {items : List AV} {m : Nat} {h : AH} {k : List AV → AH → Res α} {r : Res α} (g : Nat → Option AV) (hm : items.length = m)
    (step : ∀ (i : Nat) (v : AV), items[i]? = some v → turn v h = .ok (g i) h) (fin : k ((List.range m).filterMap g) h = r) : (compGo (wkL items).item turn m 0 [] h).bind k = r := by
  refine comp_use (fun i acc h' => acc = (List.range i).filterMap g ∧ h' = h) hm ⟨by simp, rfl⟩ (fun i v acc h' hv ⟨e1, e2⟩ => ?_) (fun acc h' ⟨e1, e2⟩ => ?_)
  · subst e1; subst e2
    refine ⟨g i, _, step i v hv, ?_, rfl⟩
    rw [List.range_succ, List.filterMap_append]
    cases hg : g i <;> simp [hg]
  · subst e1; subst e2
    exact fin
end R

end

section
set_option Elab.async false
set_option linter.all false
/-! The runner, part S: comparing lists of numbers; lists of the heap that grow. -/
namespace R
open PySem PySem.Spec L2
theorem mapM_ints {k : Nat} {h : AH} : ∀ l : List Int, (l.map AV.int).mapM (toD (k + 1) h) = some (l.map PyData.int)
  | [] => rfl
  | i :: l => by
    rw [List.map_cons, List.mapM_cons, mapM_ints l]
    rfl
theorem toD_ints {h : AH} {v : AV} {l : List Int} (q : LV h v (l.map .int)) : toD 8 h v = some (.list (l.map PyData.int)) := by
  have e := q.rdL
  rcases q with rfl | ⟨n, rfl, q⟩
  · show (match rdL h (.lst (l.map AV.int)) with
      | some xs => (xs.mapM (toD 7 h)).map PyData.list
      | none => none) = _
    rw [e]
    simp only [mapM_ints, Option.map_some]
  · show (match rdL h (.ref n) with
      | some xs => (xs.mapM (toD 7 h)).map PyData.list
      | none => none) = _
    rw [e]
    simp only [mapM_ints, Option.map_some]
theorem eq_ll {h : AH} {v w : AV} {a b : List Int} (p : LV h v (a.map .int)) (q : LV h w (b.map .int)) : cmp2v .eq v w h = some (decide (a = b)) := by
  unfold cmp2v
  simp only [toD_ints p, toD_ints q]
  show some (PyData.eqvAll _ _) = _
  rw [PySem.W.ked_eqvAll]
theorem ne_ll {h : AH} {v w : AV} {a b : List Int} (p : LV h v (a.map .int)) (q : LV h w (b.map .int)) : cmp2v .ne v w h = some (!decide (a = b)) := by
  unfold cmp2v
  simp only [toD_ints p, toD_ints q]
  show some (!PyData.eqvAll _ _) = _
  rw [PySem.W.ked_eqvAll]
@[simp] theorem frz_lst0 {xs : List AV} {ρ : AS} : frzS 0 (some (.lst xs) :: ρ) = some (.lst xs) :: ρ := rfl
theorem appH_ref {h : AH} {n : Nat} {xs : List AV} {v : AV} (e : h[n]? = some (.lst xs)) (hl : xs.length < lim) (kv : keepable v = true) : appH h (.ref n) v = some (h.set n (.lst (xs ++ [v]))) := by
  unfold appH
  rw [kv]
  simp only [e, hl, if_true]
  rfl
end R

end

section
set_option Elab.async false
set_option linter.all false
/-! The runner, part T: loops that may return, over any walk. -/
namespace R
open PySem PySem.Spec L2
theorem for_exRW {α : Type} {item : AH → Nat → Option (Option AV)} {turn : AV → AS → AH → Res Fl} {items : List AV} {m : Nat} {σ : AS} {h : AH} {k : Fl → AH → Res α} {Q : α → AH → Prop} (I : Nat → AS → AH → Prop) (R : Nat → AV → AH → Prop) (hm : items.length = m) (h0 : I 0 σ h)
    (hit : ∀ i σ h, I i σ h → item h i = some items[i]?)
    (step : ∀ i v σ h, items[i]? = some v → I i σ h → (∃ σ' h', turn v σ h = .ok (.nx σ') h' ∧ I (i + 1) σ' h') ∨ ∃ w h', turn v σ h = .ok (.rt w) h' ∧ R i w h')
    (fin : ∀ σ' h', I m σ' h' → ∃ a h'', k (.nx σ') h' = .ok a h'' ∧ Q a h'') (ret : ∀ i w h', i < m → R i w h' → ∃ a h'', k (.rt w) h' = .ok a h'' ∧ Q a h'') : ∃ a h'', (forGo item turn m 0 σ h).bind k = .ok a h'' ∧ Q a h'' := by
  subst hm
  have go : ∀ (j i : Nat) (σ : AS) (h : AH), i + j = items.length → I i σ h → (∃ σ' h', forGo item turn j i σ h = .ok (.nx σ') h' ∧ I items.length σ' h') ∨ ∃ i' w h', forGo item turn j i σ h = .ok (.rt w) h' ∧ i' < items.length ∧ R i' w h' := by
    intro j
    induction j with
    | zero =>
      intro i σ h e hi
      have e : i = items.length := e
      subst e
      exact .inl ⟨σ, h, by unfold forGo; rw [hit _ _ _ hi]; simp, hi⟩
    | succ j ih =>
      intro i σ h e hi
      have hlt : i < items.length := by omega
      rcases step i items[i] σ h (List.getElem?_eq_getElem hlt) hi with ⟨σ1, h1, e1, i1⟩ | ⟨w, h1, e1, q⟩
      · have go1 : ∀ r, forGo item turn j (i + 1) σ1 h1 = r → forGo item turn (j + 1) i σ h = r := by
          intro r er
          unfold forGo
          rw [hit _ _ _ hi]
          simp only [List.getElem?_eq_getElem hlt, e1, bind_ok]
          exact er
        rcases ih (i + 1) σ1 h1 (by omega) i1 with ⟨σ2, h2, e2, i2⟩ | ⟨i', w, h2, e2, q⟩
        · exact .inl ⟨σ2, h2, go1 _ e2, i2⟩
        · exact .inr ⟨i', w, h2, go1 _ e2, q⟩
      · refine .inr ⟨i, w, h1, ?_, hlt, q⟩
        unfold forGo
        rw [hit _ _ _ hi]
        simp only [List.getElem?_eq_getElem hlt, e1, bind_ok]
  rcases go items.length 0 σ h (by simp) h0 with ⟨σ', h', e, q⟩ | ⟨i, w, h', e, hi, q⟩
  · rw [e]; exact fin σ' h' q
  · rw [e]; exact ret i w h' hi q
theorem for_exR {α : Type} {turn : AV → AS → AH → Res Fl} {items : List AV} {m : Nat} {σ : AS} {h : AH} {k : Fl → AH → Res α} {Q : α → AH → Prop} (I : Nat → AS → AH → Prop) (R : Nat → AV → AH → Prop) (hm : items.length = m) (h0 : I 0 σ h)
    (step : ∀ i v σ h, items[i]? = some v → I i σ h → (∃ σ' h', turn v σ h = .ok (.nx σ') h' ∧ I (i + 1) σ' h') ∨ ∃ w h', turn v σ h = .ok (.rt w) h' ∧ R i w h')
    (fin : ∀ σ' h', I m σ' h' → ∃ a h'', k (.nx σ') h' = .ok a h'' ∧ Q a h'') (ret : ∀ i w h', i < m → R i w h' → ∃ a h'', k (.rt w) h' = .ok a h'' ∧ Q a h'') : ∃ a h'', (forGo (wkL items).item turn m 0 σ h).bind k = .ok a h'' ∧ Q a h'' :=
  for_exRW I R hm h0 (fun i _ h _ => by rw [wkL_item]) step fin ret
theorem for_exW {α : Type} {item : AH → Nat → Option (Option AV)} {turn : AV → AS → AH → Res Fl} {items : List AV} {m : Nat} {σ : AS} {h : AH} {k : Fl → AH → Res α} {Q : α → AH → Prop} (I : Nat → AS → AH → Prop) (hm : items.length = m) (h0 : I 0 σ h)
    (hit : ∀ i σ h, I i σ h → item h i = some items[i]?)
    (step : ∀ i v σ h, items[i]? = some v → I i σ h → ∃ σ' h', turn v σ h = .ok (.nx σ') h' ∧ I (i + 1) σ' h')
    (fin : ∀ σ' h', I m σ' h' → ∃ a h'', k (.nx σ') h' = .ok a h'' ∧ Q a h'') : ∃ a h'', (forGo item turn m 0 σ h).bind k = .ok a h'' ∧ Q a h'' :=
  for_exRW I (fun _ _ _ => False) hm h0 hit (fun i v σ h e q => .inl (step i v σ h e q)) fin (fun _ _ _ _ q => q.elim)
end R

end

section
set_option Elab.async false
set_option linter.all false
set_option maxRecDepth 100000
namespace L
open PySem L2 R
def top (i : Nat) : Stmt := PySem.Challenge.pw_ropecabins_k06_whole_plans.main.body.getD i (.Pass ⟨0, 0, 0, 0⟩)
def b_is_number : Ss := (.cons (.ret (.and (.isi (.var 0) .int) (.not (.isi (.var 0) .bool)))) .nil)
def d_is_number : Dd := ⟨"is_number", "is_number", true, top 15, ["value"], ["value"], b_is_number⟩
def b_is_within : Ss := (.cons (.ret (.and (.call 0 (.cons (.var 0) .nil)) (.cmp2 .le .le (.var 1) (.var 0) (.var 2)))) .nil)
def d_is_within : Dd := ⟨"is_within", "is_within", true, top 16, ["value", "low", "high"], ["value", "low", "high"], b_is_within⟩
def b_are_numbers : Ss := (.cons (.ret (.blt .all .fz (.cons (.comp .fz (.nm 1) (.each (.var 0)) .no (.call 0 (.cons (.var 1) .nil)) [1]) .nil))) .nil)
def d_are_numbers : Dd := ⟨"are_numbers", "are_numbers", true, top 17, ["values"], ["values", "value"], b_are_numbers⟩
def b_is_triple : Ss := (.cons (.ifs (.or (.not (.val (.isi (.var 0) .tuple))) (.val (.cmp .ne (.blt .len .fz (.cons (.var 0) .nil)) (.cst (.int 3))))) (.cons (.ret (.cst (.bl false))) .nil) .nil) (.cons (.asg (.tp (.cons (.nm 1) (.cons (.nm 2) (.cons (.nm 3) .nil)))) (.var 0)) (.cons (.ret (.and (.call 1 (.cons (.var 1) (.cons (.cst (.int 1)) (.cons (.gcs "MOST_RIDE" (.int 30)) .nil)))) (.and (.call 1 (.cons (.var 2) (.cons (.cst (.int 0)) (.cons (.gcs "MOST_STAY" (.int 20)) .nil)))) (.call 1 (.cons (.var 3) (.cons (.cst (.int 1)) (.cons (.gcs "MOST_ROOM" (.int 9)) .nil))))))) .nil)))
def d_is_triple : Dd := ⟨"is_triple", "is_triple", true, top 18, ["value"], ["value", "ride", "stay", "room"], b_is_triple⟩
def b_are_stations : Ss := (.cons (.ifs (.or (.not (.val (.isi (.var 0) .list))) (.not (.val (.cmp2 .le .le (.cst (.int 1)) (.blt .len .fz (.cons (.var 0) .nil)) (.gcs "MOST_STATIONS" (.int 4)))))) (.cons (.ret (.cst (.bl false))) .nil) .nil) (.cons (.ret (.blt .all .fz (.cons (.comp .fz (.nm 1) (.each (.var 0)) .no (.call 3 (.cons (.var 1) .nil)) [1]) .nil))) .nil))
def d_are_stations : Dd := ⟨"are_stations", "are_stations", true, top 19, ["value"], ["value", "triple"], b_are_stations⟩
def b_is_space : Ss := (.cons (.ret (.call 1 (.cons (.var 0) (.cons (.cst (.int 1)) (.cons (.gcs "MOST_SPACE" (.int 9)) .nil))))) .nil)
def d_is_space : Dd := ⟨"is_space", "is_space", true, top 20, ["value"], ["value"], b_is_space⟩
def b_is_station : Ss := (.cons (.ret (.call 1 (.cons (.var 0) (.cons (.cst (.int 0)) (.cons (.bin .sub .fz (.blt .len .fz (.cons (.var 1) .nil)) (.cst (.int 1))) .nil))))) .nil)
def d_is_station : Dd := ⟨"is_station", "is_station", true, top 21, ["value", "stations"], ["value", "stations"], b_is_station⟩
def b_is_cabin_count : Ss := (.cons (.ret (.call 1 (.cons (.var 0) (.cons (.cst (.int 1)) (.cons (.gcs "MOST_CABINS" (.int 36)) .nil))))) .nil)
def d_is_cabin_count : Dd := ⟨"is_cabin_count", "is_cabin_count", true, top 22, ["value"], ["value"], b_is_cabin_count⟩
def b_is_plan_ticks : Ss := (.cons (.ret (.call 1 (.cons (.var 0) (.cons (.cst (.int 1)) (.cons (.gcs "MOST_PLAN_TICKS" (.int 60)) .nil))))) .nil)
def d_is_plan_ticks : Dd := ⟨"is_plan_ticks", "is_plan_ticks", true, top 23, ["value"], ["value"], b_is_plan_ticks⟩
def b_need_stations : Ss := (.cons (.ifs (.not (.val (.call 4 (.cons (.var 0) .nil)))) (.cons (.never) .nil) .nil) .nil)
def d_need_stations : Dd := ⟨"need_stations", "need_stations", true, top 24, ["value"], ["value"], b_need_stations⟩
def b_need_space : Ss := (.cons (.ifs (.not (.val (.call 5 (.cons (.var 0) .nil)))) (.cons (.never) .nil) .nil) .nil)
def d_need_space : Dd := ⟨"need_space", "need_space", true, top 25, ["value"], ["value"], b_need_space⟩
def b_need_cabin_count : Ss := (.cons (.ifs (.not (.val (.call 7 (.cons (.var 0) .nil)))) (.cons (.never) .nil) .nil) .nil)
def d_need_cabin_count : Dd := ⟨"need_cabin_count", "need_cabin_count", true, top 26, ["value"], ["value"], b_need_cabin_count⟩
def b_need_plan_ticks : Ss := (.cons (.ifs (.not (.val (.call 8 (.cons (.var 0) .nil)))) (.cons (.never) .nil) .nil) .nil)
def d_need_plan_ticks : Dd := ⟨"need_plan_ticks", "need_plan_ticks", true, top 27, ["value"], ["value"], b_need_plan_ticks⟩
def b_need_rope : Ss := (.cons (.expr (.call 9 (.cons (.var 0) .nil))) (.cons (.expr (.call 10 (.cons (.var 1) .nil))) .nil))
def d_need_rope : Dd := ⟨"need_rope", "need_rope", true, top 28, ["stations", "space"], ["stations", "space"], b_need_rope⟩
def b_need_plan : Ss := (.cons (.expr (.call 13 (.cons (.var 0) (.cons (.var 1) .nil)))) (.cons (.expr (.call 11 (.cons (.var 2) .nil))) (.cons (.expr (.call 12 (.cons (.var 3) .nil))) .nil)))
def d_need_plan : Dd := ⟨"need_plan", "need_plan", true, top 29, ["stations", "space", "many", "ticks"], ["stations", "space", "many", "ticks"], b_need_plan⟩
def b_Keeps___init__ : Ss := (.cons (.setFld (.var 0) "waits" [1] (.call 19 (.cons (.var 1) .nil))) .nil)
def d_Keeps___init__ : Dd := ⟨"__init__", "Keeps.__init__", false, inClass (top 41) 0, ["self", "waits"], ["self", "waits"], b_Keeps___init__⟩
def b_Keeps_shows : Ss := (.cons (.set 5 (.fld (.var 0) "waits" [1])) (.cons (.ifs (.or (.not (.val (.isi (.var 5) .list))) (.or (.val (.cmp .ne (.blt .len .fz (.cons (.var 5) .nil)) (.blt .len .fz (.cons (.var 1) .nil)))) (.not (.val (.call 2 (.cons (.var 5) .nil)))))) (.cons (.ret (.cst (.bl false))) .nil) .nil) (.cons (.ifs (.not (.val (.blt .all .fz (.cons (.comp .fz (.tp (.cons (.nm 6) (.cons (.tp (.cons (.nm 7) (.cons (.nm 8) (.cons (.nm 9) .nil)))) .nil))) (.zip (.var 5) (.var 1)) .no (.cmp2 .le .lt (.var 8) (.var 6) (.bin .mul .fz (.var 9) (.var 4))) [6, 7, 8, 9]) .nil)))) (.cons (.ret (.cst (.bl false))) .nil) .nil) (.cons (.ret (.and (.cmp .eq (.bin .add .fz (.call 20 (.cons (.var 1) .nil)) (.blt .sum .fz (.cons (.var 5) .nil))) (.bin .mul .fz (.var 3) (.var 4))) (.cmp .ge (.var 4) (.var 2)))) .nil))))
def d_Keeps_shows : Dd := ⟨"shows", "Keeps.shows", false, inClass (top 41) 1, ["self", "stations", "space", "many", "ticks"], ["self", "stations", "space", "many", "ticks", "waits", "wait", "ride", "stay", "room"], b_Keeps_shows⟩
def b_Bars___init__ : Ss := (.cons (.setFld (.var 0) "text" [2] (.call 19 (.cons (.var 1) .nil))) (.cons (.setFld (.var 0) "station" [2] (.call 19 (.cons (.var 2) .nil))) .nil))
def d_Bars___init__ : Dd := ⟨"__init__", "Bars.__init__", false, inClass (top 42) 0, ["self", "text", "station"], ["self", "text", "station"], b_Bars___init__⟩
def b_Bars_shows : Ss := (.cons (.ifs (.val (.cmp .eq (.fld (.var 0) "text" [2]) (.cst (.str "room")))) (.cons (.ret (.and (.call 6 (.cons (.fld (.var 0) "station" [2]) (.cons (.var 1) .nil))) (.call 22 (.cons (.idx (.var 1) (.fld (.var 0) "station" [2])) (.cons (.var 4) .nil))))) .nil) .nil) (.cons (.ifs (.val (.cmp .notN (.fld (.var 0) "station" [2]) (.cst .non))) (.cons (.ret (.cst (.bl false))) .nil) .nil) (.cons (.ifs (.val (.cmp .eq (.fld (.var 0) "text" [2]) (.cst (.str "space")))) (.cons (.ret (.cmp .lt (.var 4) (.var 2))) .nil) .nil) (.cons (.ifs (.val (.cmp .eq (.fld (.var 0) "text" [2]) (.cst (.str "few")))) (.cons (.ret (.cmp .lt (.bin .mul .fz (.var 3) (.var 4)) (.bin .add .fz (.call 20 (.cons (.var 1) .nil)) (.call 21 (.cons (.var 1) .nil))))) .nil) .nil) (.cons (.set 5 (.blt .sum .fz (.cons (.comp .fz (.tp (.cons (.nm 6) (.cons (.nm 7) (.cons (.nm 8) .nil)))) (.each (.var 1)) .no (.bin .sub .fz (.bin .mul .fz (.var 8) (.var 4)) (.cst (.int 1))) [6, 7, 8]) .nil))) (.cons (.ret (.and (.cmp .eq (.fld (.var 0) "text" [2]) (.cst (.str "many"))) (.cmp .gt (.bin .mul .fz (.var 3) (.var 4)) (.bin .add .fz (.call 20 (.cons (.var 1) .nil)) (.var 5))))) .nil))))))
def d_Bars_shows : Dd := ⟨"shows", "Bars.shows", false, inClass (top 42) 1, ["self", "stations", "space", "many", "ticks"], ["self", "stations", "space", "many", "ticks", "most_waits", "ride", "stay", "room"], b_Bars_shows⟩
def b_copied : Ss := (.cons (.ret (.ite (.val (.isi (.var 0) .list)) (.blt .list .hp (.cons (.var 0) .nil)) (.var 0))) .nil)
def d_copied : Dd := ⟨"copied", "copied", true, top 45, ["field"], ["field"], b_copied⟩
def b_all_rides : Ss := (.cons (.ret (.blt .sum .fz (.cons (.comp .fz (.tp (.cons (.nm 1) (.cons (.nm 2) (.cons (.nm 3) .nil)))) (.each (.var 0)) .no (.var 1) [1, 2, 3]) .nil))) .nil)
def d_all_rides : Dd := ⟨"all_rides", "all_rides", true, top 46, ["stations"], ["stations", "ride", "stay", "room"], b_all_rides⟩
def b_all_stays : Ss := (.cons (.ret (.blt .sum .fz (.cons (.comp .fz (.tp (.cons (.nm 1) (.cons (.nm 2) (.cons (.nm 3) .nil)))) (.each (.var 0)) .no (.var 2) [1, 2, 3]) .nil))) .nil)
def d_all_stays : Dd := ⟨"all_stays", "all_stays", true, top 47, ["stations"], ["stations", "ride", "stay", "room"], b_all_stays⟩
def b_has_no_wait : Ss := (.cons (.asg (.tp (.cons (.nm 2) (.cons (.nm 3) (.cons (.nm 4) .nil)))) (.var 0)) (.cons (.ret (.cmp .ge (.var 3) (.bin .mul .fz (.var 4) (.var 1)))) .nil))
def d_has_no_wait : Dd := ⟨"has_no_wait", "has_no_wait", true, top 48, ["triple", "ticks"], ["triple", "ticks", "ride", "stay", "room"], b_has_no_wait⟩
def b_planned : Ss := (.cons (.expr (.call 14 (.cons (.var 0) (.cons (.var 1) (.cons (.var 2) (.cons (.var 3) .nil)))))) (.cons (.ifs (.val (.cmp .lt (.var 3) (.var 1))) (.cons (.ret (.make 2 17 (.cons (.cst (.str "space")) (.cons (.cst .non) .nil)))) .nil) .nil) (.cons (.fore (.tp (.cons (.nm 5) (.cons (.nm 6) .nil))) (.enum (.var 0)) (.cons (.ifs (.val (.call 22 (.cons (.var 6) (.cons (.var 3) .nil)))) (.cons (.ret (.make 2 17 (.cons (.cst (.str "room")) (.cons (.var 5) .nil)))) .nil) .nil) .nil)) (.cons (.set 4 (.bin .sub .fz (.bin .sub .fz (.bin .mul .fz (.var 2) (.var 3)) (.call 20 (.cons (.var 0) .nil))) (.call 21 (.cons (.var 0) .nil)))) (.cons (.ifs (.val (.cmp .lt (.var 4) (.cst (.int 0)))) (.cons (.ret (.make 2 17 (.cons (.cst (.str "few")) (.cons (.cst .non) .nil)))) .nil) .nil) (.cons (.asg (.tp (.cons (.nm 7) (.cons (.nm 4) .nil))) (.call 24 (.cons (.var 0) (.cons (.var 3) (.cons (.var 4) .nil))))) (.cons (.ret (.ite (.val (.var 4)) (.make 2 17 (.cons (.cst (.str "many")) (.cons (.cst .non) .nil))) (.make 1 15 (.cons (.var 7) .nil)))) .nil)))))))
def d_planned : Dd := ⟨"planned", "planned", true, top 53, ["stations", "space", "many", "ticks"], ["stations", "space", "many", "ticks", "rest", "at", "triple", "waits"], b_planned⟩
def b_waits_beyond_stays : Ss := (.cons (.set 3 (.lst .ow .nil)) (.cons (.fore (.tp (.cons (.nm 4) (.cons (.nm 5) (.cons (.nm 6) .nil)))) (.each (.var 0)) (.cons (.set 7 (.blt .min .fz (.cons (.var 2) (.cons (.bin .sub .fz (.bin .sub .fz (.bin .mul .fz (.var 6) (.var 1)) (.cst (.int 1))) (.var 5)) .nil)))) (.cons (.appOwn 3 (.bin .add .fz (.var 5) (.var 7))) (.cons (.aug .sub 2 (.var 7)) .nil)))) (.cons (.frz 3) (.cons (.ret (.tup (.cons (.var 3) (.cons (.var 2) .nil)))) .nil))))
def d_waits_beyond_stays : Dd := ⟨"waits_beyond_stays", "waits_beyond_stays", true, top 54, ["stations", "ticks", "rest"], ["stations", "ticks", "rest", "waits", "ride", "stay", "room", "more"], b_waits_beyond_stays⟩
def b__law_cell_at : Ss := (.cons (.ifs (.val (.cmp .lt (.var 1) (.blt .len .fz (.cons (.var 0) .nil)))) (.cons (.ret (.idx (.var 0) (.var 1))) .nil) .nil) (.cons (.ret (.cst (.int 0))) .nil))
def d__law_cell_at : Dd := ⟨"_law_cell_at", "_law_cell_at", true, top 56, ["_law_script", "_law_k"], ["_law_script", "_law_k"], b__law_cell_at⟩
def b__law_draw : Ss := (.cons (.set 3 (.tup (.cons (.cst (.int 1000003)) (.cons (.cst (.int 1000033)) (.cons (.cst (.int 1000037)) (.cons (.cst (.int 1000039)) (.cons (.cst (.int 1000081)) (.cons (.cst (.int 1000099)) (.cons (.cst (.int 1000117)) (.cons (.cst (.int 1000121)) (.cons (.cst (.int 1000133)) (.cons (.cst (.int 1000151)) (.cons (.cst (.int 1000159)) (.cons (.cst (.int 1000171)) (.cons (.cst (.int 1000183)) (.cons (.cst (.int 1000187)) (.cons (.cst (.int 1000193)) (.cons (.cst (.int 1000199)) .nil)))))))))))))))))) (.cons (.ret (.bin .mod .fz (.bin .mod .fz (.bin .add .fz (.bin .mul .fz (.var 0) (.cst (.int 48271))) (.bin .mul .fz (.var 1) (.cst (.int 69621)))) (.idx (.var 3) (.bin .mod .fz (.var 1) (.cst (.int 16))))) (.var 2))) .nil))
def d__law_draw : Dd := ⟨"_law_draw", "_law_draw", true, top 57, ["_law_cell", "_law_k", "_law_most"], ["_law_cell", "_law_k", "_law_most", "_law_primes"], b__law_draw⟩
def b__law_number : Ss := (.cons (.ifs (.val (.cmp .ge (.var 0) (.bin .pow .fz (.cst (.int 10)) (.cst (.int 18))))) (.cons (.ret (.bin .mod .fz (.bin .fdiv .fz (.bin .sub .fz (.var 0) (.bin .pow .fz (.cst (.int 10)) (.cst (.int 18)))) (.idx (.tup (.cons (.cst (.int 1)) (.cons (.cst (.int 7)) (.cons (.cst (.int 49)) (.cons (.cst (.int 343)) (.cons (.cst (.int 2401)) .nil)))))) (.bin .mod .fz (.var 1) (.cst (.int 5))))) (.var 2))) .nil) .nil) (.cons (.set 3 (.bin .mod .fz (.var 0) (.cst (.int 1000003)))) (.cons (.ret (.bin .mod .fz (.call 26 (.cons (.bin .mul .fz (.bin .add .fz (.var 3) (.bin .mul .fz (.cst (.int 977)) (.var 1))) (.bin .add .fz (.bin .add .fz (.var 3) (.bin .mul .fz (.cst (.int 31)) (.var 1))) (.cst (.int 5)))) (.cons (.bin .add .fz (.bin .mod .fz (.var 1) (.cst (.int 9))) (.cst (.int 1))) (.cons (.cst (.int 999983)) .nil)))) (.var 2))) .nil)))
def d__law_number : Dd := ⟨"_law_number", "_law_number", true, top 58, ["_law_cell", "_law_k", "_law_limit"], ["_law_cell", "_law_k", "_law_limit", "_law_small"], b__law_number⟩
def b__law_plan : Ss := (.cons (.set 2 (.call 25 (.cons (.var 0) (.cons (.var 1) .nil)))) (.cons (.par [5, 6] (.cons (.call 27 (.cons (.var 2) (.cons (.bin .add .fz (.var 1) (.cst (.int 1))) (.cons (.cst (.int 4)) .nil)))) (.cons (.lst .ow .nil) .nil))) (.cons (.fore (.nm 3) (.rng1 (.bin .add .fz (.cst (.int 1)) (.call 27 (.cons (.var 2) (.cons (.bin .add .fz (.var 1) (.cst (.int 2))) (.cons (.cst (.int 4)) .nil)))))) (.cons (.set 7 (.bin .add .fz (.call 25 (.cons (.var 0) (.cons (.bin .add .fz (.bin .add .fz (.var 1) (.var 3)) (.cst (.int 1))) .nil))) (.bin .mul .fz (.cst (.int 31)) (.var 3)))) (.cons (.par [10, 11] (.cons (.bin .add .fz (.cst (.int 1)) (.call 27 (.cons (.var 7) (.cons (.bin .add .fz (.var 3) (.cst (.int 1))) (.cons (.cst (.int 30)) .nil))))) (.cons (.call 27 (.cons (.var 7) (.cons (.bin .add .fz (.var 3) (.cst (.int 2))) (.cons (.cst (.int 21)) .nil)))) .nil))) (.cons (.appOwn 6 (.tup (.cons (.var 10) (.cons (.var 11) (.cons (.bin .add .fz (.cst (.int 1)) (.call 27 (.cons (.var 7) (.cons (.bin .add .fz (.var 3) (.cst (.int 3))) (.cons (.ite (.val (.cmp .lt (.var 5) (.cst (.int 2)))) (.cst (.int 9)) (.cst (.int 3))) .nil))))) .nil))))) .nil)))) (.cons (.par [8, 9] (.cons (.bin .add .fz (.cst (.int 1)) (.call 27 (.cons (.var 2) (.cons (.bin .add .fz (.var 1) (.cst (.int 3))) (.cons (.cst (.int 9)) .nil))))) (.cons (.bin .add .fz (.cst (.int 1)) (.call 27 (.cons (.var 2) (.cons (.bin .add .fz (.var 1) (.cst (.int 4))) (.cons (.ite (.val (.cmp .eq (.var 5) (.cst (.int 3)))) (.cst (.int 6)) (.cst (.int 30))) .nil))))) .nil))) (.cons (.set 4 (.bin .add .fz (.cst (.int 1)) (.call 27 (.cons (.var 2) (.cons (.bin .add .fz (.var 1) (.cst (.int 5))) (.cons (.cst (.int 36)) .nil)))))) (.cons (.ifs (.val (.cmp .eq (.var 5) (.cst (.int 1)))) (.cons (.set 4 (.bin .add .fz (.bin .fdiv .fz (.blt .sum .fz (.cons (.comp .fz (.nm 12) (.each (.var 6)) .no (.bin .add .fz (.idx (.var 12) (.cst (.int 0))) (.idx (.var 12) (.cst (.int 1)))) [12]) .nil)) (.var 9)) (.call 27 (.cons (.var 2) (.cons (.bin .add .fz (.var 1) (.cst (.int 6))) (.cons (.cst (.int 2)) .nil)))))) .nil) .nil) (.cons (.ifs (.val (.cmp .eq (.var 5) (.cst (.int 2)))) (.cons (.set 4 (.bin .add .fz (.bin .fdiv .fz (.blt .sum .fz (.cons (.comp .fz (.nm 12) (.each (.var 6)) .no (.bin .sub .fz (.bin .add .fz (.idx (.var 12) (.cst (.int 0))) (.bin .mul .fz (.idx (.var 12) (.cst (.int 2))) (.var 9))) (.cst (.int 1))) [12]) .nil)) (.var 9)) (.call 27 (.cons (.var 2) (.cons (.bin .add .fz (.var 1) (.cst (.int 6))) (.cons (.cst (.int 2)) .nil)))))) .nil) .nil) (.cons (.frz 6) (.cons (.ret (.tup (.cons (.var 6) (.cons (.var 8) (.cons (.blt .max .fz (.cons (.cst (.int 1)) (.cons (.blt .min .fz (.cons (.cst (.int 36)) (.cons (.var 4) .nil))) .nil))) (.cons (.var 9) .nil)))))) .nil)))))))))
def d__law_plan : Dd := ⟨"_law_plan", "_law_plan", true, top 59, ["_law_script", "_law_by"], ["_law_script", "_law_by", "_law_cell", "_law_at", "_law_many", "_law_kind", "_law_stations", "_law_other", "_law_space", "_law_ticks", "_law_road", "_law_stay", "_law_one"], b__law_plan⟩
def b__law_is_keeps : Ss := (.cons (.ifs (.or (.val (.cmp .ne (.blt .len .fz (.cons (.var 4) .nil)) (.blt .len .fz (.cons (.var 0) .nil)))) (.val (.cmp .lt (.var 3) (.var 1)))) (.cons (.ret (.cst (.bl false))) .nil) .nil) (.cons (.fore (.tp (.cons (.nm 5) (.cons (.nm 6) .nil))) (.enum (.var 0)) (.cons (.ifs (.not (.val (.cmp2 .le .lt (.idx (.var 6) (.cst (.int 1))) (.idx (.var 4) (.var 5)) (.bin .mul .fz (.idx (.var 6) (.cst (.int 2))) (.var 3))))) (.cons (.ret (.cst (.bl false))) .nil) .nil) .nil)) (.cons (.ret (.cmp .eq (.bin .add .fz (.blt .sum .fz (.cons (.var 4) .nil)) (.blt .sum .fz (.cons (.comp .fz (.nm 6) (.each (.var 0)) .no (.idx (.var 6) (.cst (.int 0))) [6]) .nil))) (.bin .mul .fz (.var 2) (.var 3)))) .nil)))
def d__law_is_keeps : Dd := ⟨"_law_is_keeps", "_law_is_keeps", true, top 60, ["_law_stations", "_law_space", "_law_many", "_law_ticks", "_law_waits"], ["_law_stations", "_law_space", "_law_many", "_law_ticks", "_law_waits", "_law_at", "_law_one"], b__law_is_keeps⟩
def b__law_is_bars : Ss := (.cons (.ifs (.val (.cmp .eq (.var 4) (.cst (.str "room")))) (.cons (.ifs (.or (.val (.cmp .isN (.var 5) (.cst .non))) (.not (.val (.cmp2 .le .lt (.cst (.int 0)) (.var 5) (.blt .len .fz (.cons (.var 0) .nil)))))) (.cons (.ret (.cst (.bl false))) .nil) .nil) (.cons (.ret (.cmp .ge (.idx (.idx (.var 0) (.var 5)) (.cst (.int 1))) (.bin .mul .fz (.idx (.idx (.var 0) (.var 5)) (.cst (.int 2))) (.var 3)))) .nil)) .nil) (.cons (.ifs (.val (.cmp .notN (.var 5) (.cst .non))) (.cons (.ret (.cst (.bl false))) .nil) .nil) (.cons (.ifs (.val (.cmp .eq (.var 4) (.cst (.str "space")))) (.cons (.ret (.cmp .lt (.var 3) (.var 1))) .nil) .nil) (.cons (.ifs (.val (.cmp .eq (.var 4) (.cst (.str "few")))) (.cons (.ret (.cmp .lt (.bin .mul .fz (.var 2) (.var 3)) (.blt .sum .fz (.cons (.comp .fz (.nm 7) (.each (.var 0)) .no (.bin .add .fz (.idx (.var 7) (.cst (.int 0))) (.idx (.var 7) (.cst (.int 1)))) [7]) .nil)))) .nil) .nil) (.cons (.set 6 (.blt .sum .fz (.cons (.comp .fz (.nm 7) (.each (.var 0)) .no (.bin .sub .fz (.bin .add .fz (.idx (.var 7) (.cst (.int 0))) (.bin .mul .fz (.idx (.var 7) (.cst (.int 2))) (.var 3))) (.cst (.int 1))) [7]) .nil))) (.cons (.ret (.and (.cmp .eq (.var 4) (.cst (.str "many"))) (.cmp .gt (.bin .mul .fz (.var 2) (.var 3)) (.var 6)))) .nil))))))
def d__law_is_bars : Dd := ⟨"_law_is_bars", "_law_is_bars", true, top 61, ["_law_stations", "_law_space", "_law_many", "_law_ticks", "_law_text", "_law_station"], ["_law_stations", "_law_space", "_law_many", "_law_ticks", "_law_text", "_law_station", "_law_most", "_law_one"], b__law_is_bars⟩
def b__law_plain : Ss := (.cons (.ifs (.val (.isiT (.var 0) [.list, .tuple])) (.cons (.ret (.blt .all .fz (.cons (.comp .fz (.nm 1) (.each (.var 0)) .no (.call 31 (.cons (.var 1) .nil)) [1]) .nil))) .nil) .nil) (.cons (.ret (.or (.cmp .isN (.var 0) (.cst .non)) (.and (.not (.isi (.var 0) .bool)) (.isiT (.var 0) [.int, .str])))) .nil))
def d__law_plain : Dd := ⟨"_law_plain", "_law_plain", true, top 62, ["_law_found"], ["_law_found", "_law_one"], b__law_plain⟩
def b__law_says : Ss := (.cons (.ret (.and (.isi (.var 0) .bool) (.cmp .eq (.var 0) (.var 1)))) .nil)
def d__law_says : Dd := ⟨"_law_says", "_law_says", true, top 63, ["_law_said", "_law_due_here"], ["_law_said", "_law_due_here"], b__law_says⟩
def b__law_can : Ss := (.cons (.ifs (.or (.val (.cmp .lt (.var 3) (.var 1))) (.val (.blt .any .fz (.cons (.comp .fz (.nm 5) (.each (.var 0)) .no (.cmp .ge (.idx (.var 5) (.cst (.int 1))) (.bin .mul .fz (.idx (.var 5) (.cst (.int 2))) (.var 3))) [5]) .nil)))) (.cons (.ret (.cst (.bl false))) .nil) .nil) (.cons (.set 4 (.blt .sum .fz (.cons (.comp .fz (.nm 5) (.each (.var 0)) .no (.bin .add .fz (.idx (.var 5) (.cst (.int 0))) (.idx (.var 5) (.cst (.int 1)))) [5]) .nil))) (.cons (.ret (.cmp2 .le .le (.var 4) (.bin .mul .fz (.var 2) (.var 3)) (.blt .sum .fz (.cons (.comp .fz (.nm 5) (.each (.var 0)) .no (.bin .sub .fz (.bin .add .fz (.idx (.var 5) (.cst (.int 0))) (.bin .mul .fz (.idx (.var 5) (.cst (.int 2))) (.var 3))) (.cst (.int 1))) [5]) .nil)))) .nil)))
def d__law_can : Dd := ⟨"_law_can", "_law_can", true, top 64, ["_law_stations", "_law_space", "_law_many", "_law_ticks"], ["_law_stations", "_law_space", "_law_many", "_law_ticks", "_law_least", "_law_one"], b__law_can⟩
def b__law_due : Ss := (.cons (.asg (.tp (.cons (.nm 2) (.cons (.nm 3) (.cons (.nm 4) (.cons (.nm 5) .nil))))) (.var 0)) (.cons (.ifs (.val (.isc (.var 1) 1 [1] [0, 2, 3, 4])) (.cons (.ret (.call 29 (.cons (.var 2) (.cons (.var 3) (.cons (.var 4) (.cons (.var 5) (.cons (.fld (.var 1) "waits" [1]) .nil))))))) .nil) .nil) (.cons (.ret (.call 30 (.cons (.var 2) (.cons (.var 3) (.cons (.var 4) (.cons (.var 5) (.cons (.fld (.var 1) "text" [2]) (.cons (.fld (.var 1) "station" [2]) .nil)))))))) .nil)))
def d__law_due : Dd := ⟨"_law_due", "_law_due", true, top 65, ["_law_plan_here", "_law_found"], ["_law_plan_here", "_law_found", "_law_stations", "_law_space", "_law_many", "_law_ticks"], b__law_due⟩
def b__law_right : Ss := (.cons (.asg (.tp (.cons (.nm 3) (.cons (.nm 4) (.cons (.nm 5) (.cons (.nm 6) .nil))))) (.var 0)) (.cons (.par [7, 8] (.cons (.blt .list .fz (.cons (.var 3) .nil)) (.cons (.call 33 (.cons (.var 3) (.cons (.var 4) (.cons (.var 5) (.cons (.var 6) .nil))))) .nil))) (.cons (.fore (.nm 2) (.rng1 (.cst (.int 2))) (.cons (.set 9 (.call 23 (.cons (.var 7) (.cons (.var 4) (.cons (.var 5) (.cons (.var 6) .nil)))))) (.cons (.set 10 (.lst .fz (.cons (.isc (.var 9) 1 [1] [0, 2, 3, 4]) (.cons (.isc (.var 9) 2 [2] [0, 1, 3, 4]) (.cons (.isc (.var 9) 3 [3] [0, 1, 2, 4]) (.cons (.isc (.var 9) 4 [4] [0, 1, 2, 3]) .nil)))))) (.cons (.ifs (.or (.not (.val (.isc (.var 9) 0 [0, 1, 2, 3, 4] []))) (.or (.val (.cmp .ne (.var 10) (.lst .fz (.cons (.var 8) (.cons (.not (.var 8)) (.cons (.cst (.bl false)) (.cons (.cst (.bl false)) .nil))))))) (.val (.cmp .ne (.var 7) (.var 3))))) (.cons (.ret (.cst (.bl false))) .nil) .nil) (.cons (.ifs (.or (.not (.val (.call 34 (.cons (.var 0) (.cons (.var 9) .nil))))) (.not (.val (.call 32 (.cons (.meth (.var 9) "shows" [(1, 16), (2, 18)] (.cons (.var 3) (.cons (.var 4) (.cons (.var 5) (.cons (.var 6) .nil))))) (.cons (.cst (.bl true)) .nil)))))) (.cons (.ret (.cst (.bl false))) .nil) .nil) (.cons (.ifs (.not (.val (.call 31 (.cons (.ite (.val (.var 8)) (.fld (.var 9) "waits" [1]) (.lst .fz (.cons (.fld (.var 9) "text" [2]) (.cons (.fld (.var 9) "station" [2]) .nil)))) .nil)))) (.cons (.ret (.cst (.bl false))) .nil) .nil) (.cons (.fore (.nm 11) (.each (.var 1)) (.cons (.ifs (.not (.val (.call 32 (.cons (.meth (.var 9) "shows" [(1, 16), (2, 18)] (.cons (.idx (.var 11) (.cst (.int 0))) (.cons (.idx (.var 11) (.cst (.int 1))) (.cons (.idx (.var 11) (.cst (.int 2))) (.cons (.idx (.var 11) (.cst (.int 3))) .nil))))) (.cons (.call 34 (.cons (.var 11) (.cons (.var 9) .nil))) .nil))))) (.cons (.ret (.cst (.bl false))) .nil) .nil) .nil)) (.cons (.ifs (.val (.var 8)) (.cons (.setIx (.fld (.var 9) "waits" [1]) (.cst (.int 0)) (.bin .add .fz (.idx (.fld (.var 9) "waits" [1]) (.cst (.int 0))) (.cst (.int 1)))) (.cons (.ifs (.val (.cmp .notB (.meth (.var 9) "shows" [(1, 16), (2, 18)] (.cons (.var 3) (.cons (.var 4) (.cons (.var 5) (.cons (.var 6) .nil))))) (.cst (.bl false)))) (.cons (.ret (.cst (.bl false))) .nil) .nil) .nil)) .nil) .nil)))))))) (.cons (.ret (.cst (.bl true))) .nil))))
def d__law_right : Dd := ⟨"_law_right", "_law_right", true, top 66, ["_law_plan_here", "_law_others"], ["_law_plan_here", "_law_others", "_law_again", "_law_stations", "_law_space", "_law_many", "_law_ticks", "_law_handed", "_law_good", "_law_found", "_law_sorts", "_law_other"], b__law_right⟩
def b_law : Ss := (.cons (.fore (.nm 1) (.rng1 (.cst (.int 3))) (.cons (.par [12, 13] (.cons (.call 28 (.cons (.var 0) (.cons (.var 1) .nil))) (.cons (.call 28 (.cons (.var 0) (.cons (.bin .add .fz (.var 1) (.cst (.int 1))) .nil))) .nil))) (.cons (.asg (.tp (.cons (.nm 2) (.cons (.nm 7) (.cons (.nm 8) (.cons (.nm 9) .nil))))) (.var 12)) (.cons (.set 6 (.lst .fz (.cons (.var 13) (.cons (.tup (.cons (.var 2) (.cons (.var 7) (.cons (.var 8) (.cons (.bin .add .fz (.cst (.int 1)) (.bin .mod .fz (.var 9) (.cst (.int 60)))) .nil))))) (.cons (.tup (.cons (.rev .fz (.var 2) (.neg (.cst (.int 1)))) (.cons (.var 7) (.cons (.var 8) (.cons (.var 9) .nil))))) .nil))))) (.cons (.ifs (.or (.not (.val (.call 35 (.cons (.var 12) (.cons (.var 6) .nil))))) (.not (.val (.call 35 (.cons (.tup (.cons (.slc .fz (.var 2) .no (.so (.cst (.int 1)))) (.cons (.var 7) (.cons (.var 8) (.cons (.var 9) .nil))))) (.cons (.lst .fz (.cons (.var 12) .nil)) .nil)))))) (.cons (.ret (.cst (.bl false))) .nil) .nil) .nil))))) (.cons (.set 2 (.lst .hp (.cons (.tup (.cons (.cst (.int 10)) (.cons (.cst (.int 2)) (.cons (.cst (.int 1)) .nil)))) (.cons (.tup (.cons (.cst (.int 5)) (.cons (.cst (.int 3)) (.cons (.cst (.int 2)) .nil)))) .nil)))) (.cons (.set 3 (.call 23 (.cons (.var 2) (.cons (.cst (.int 3)) (.cons (.cst (.int 4)) (.cons (.cst (.int 6)) .nil)))))) (.cons (.setIx (.var 2) (.cst (.int 0)) (.tup (.cons (.cst (.int 10)) (.cons (.cst (.int 6)) (.cons (.cst (.int 1)) .nil))))) (.cons (.set 4 (.call 23 (.cons (.var 2) (.cons (.cst (.int 3)) (.cons (.cst (.int 4)) (.cons (.cst (.int 6)) .nil)))))) (.cons (.ifs (.or (.not (.val (.isc (.var 3) 1 [1] [0, 2, 3, 4]))) (.or (.val (.cmp .ne (.blt .sum .fz (.cons (.fld (.var 3) "waits" [1]) .nil)) (.cst (.int 9)))) (.not (.val (.isc (.var 4) 2 [2] [0, 1, 3, 4]))))) (.cons (.ret (.cst (.bl false))) .nil) .nil) (.cons (.ifs (.or (.val (.inS true (.tup (.cons (.fld (.var 4) "text" [2]) (.cons (.fld (.var 4) "station" [2]) .nil))) (.tup (.cons (.tup (.cons (.cst (.str "room")) (.cons (.cst (.int 0)) .nil))) .nil)))) (.val (.cmp .notB (.meth (.var 3) "shows" [(1, 16), (2, 18)] (.cons (.var 2) (.cons (.cst (.int 3)) (.cons (.cst (.int 4)) (.cons (.cst (.int 6)) .nil))))) (.cst (.bl false))))) (.cons (.ret (.cst (.bl false))) .nil) .nil) (.cons (.set 5 (.lst .ow (.cons (.tup (.cons (.lst .fz (.cons (.tup (.cons (.cst (.int 10)) (.cons (.cst (.int 2)) (.cons (.cst (.int 9)) .nil)))) .nil)) (.cons (.cst (.int 5)) (.cons (.cst (.int 3)) (.cons (.cst (.int 4)) (.cons (.tup (.cons (.cst (.str "space")) (.cons (.cst .non) .nil))) .nil)))))) (.cons (.tup (.cons (.lst .fz (.cons (.tup (.cons (.cst (.int 10)) (.cons (.cst (.int 2)) (.cons (.cst (.int 9)) .nil)))) .nil)) (.cons (.cst (.int 1)) (.cons (.cst (.int 3)) (.cons (.cst (.int 3)) (.cons (.tup (.cons (.cst (.str "few")) (.cons (.cst .non) .nil))) .nil)))))) .nil)))) (.cons (.appOwn 5 (.tup (.cons (.lst .fz (.cons (.tup (.cons (.cst (.int 1)) (.cons (.cst (.int 0)) (.cons (.cst (.int 1)) .nil)))) .nil)) (.cons (.cst (.int 1)) (.cons (.cst (.int 9)) (.cons (.cst (.int 3)) (.cons (.tup (.cons (.cst (.str "many")) (.cons (.cst .non) .nil))) .nil))))))) (.cons (.frz 5) (.cons (.fore (.tp (.cons (.nm 2) (.cons (.nm 7) (.cons (.nm 8) (.cons (.nm 9) (.cons (.nm 10) .nil)))))) (.each (.var 5)) (.cons (.set 11 (.call 23 (.cons (.var 2) (.cons (.var 7) (.cons (.var 8) (.cons (.var 9) .nil)))))) (.cons (.ifs (.or (.not (.val (.isc (.var 11) 2 [2] [0, 1, 3, 4]))) (.val (.cmp .ne (.tup (.cons (.fld (.var 11) "text" [2]) (.cons (.fld (.var 11) "station" [2]) .nil))) (.var 10)))) (.cons (.ret (.cst (.bl false))) .nil) .nil) .nil))) (.cons (.ret (.and (.cmp .eq (.fld (.call 23 (.cons (.lst .fz (.cons (.tup (.cons (.cst (.int 10)) (.cons (.cst (.int 2)) (.cons (.cst (.int 9)) .nil)))) .nil)) (.cons (.cst (.int 1)) (.cons (.cst (.int 3)) (.cons (.cst (.int 4)) .nil))))) "waits" [1]) (.lst .fz (.cons (.cst (.int 2)) .nil))) (.cmp .eq (.fld (.call 23 (.cons (.lst .fz (.cons (.tup (.cons (.cst (.int 1)) (.cons (.cst (.int 0)) (.cons (.cst (.int 1)) .nil)))) .nil)) (.cons (.cst (.int 1)) (.cons (.cst (.int 1)) (.cons (.cst (.int 1)) .nil))))) "waits" [1]) (.lst .fz (.cons (.cst (.int 0)) .nil))))) .nil))))))))))))
def d_law : Dd := ⟨"law", "law", true, top 67, ["_law_script"], ["_law_script", "_law_by", "_law_stations", "_law_first", "_law_last", "_law_lots", "_law_others", "_law_space", "_law_many", "_law_ticks", "_law_due_here", "_law_found", "_law_plan_here", "_law_other"], b_law⟩
def gc : List (Str × AV) := [("MOST_STATIONS", (.int 4)), ("MOST_RIDE", (.int 30)), ("MOST_STAY", (.int 20)), ("MOST_ROOM", (.int 9)), ("MOST_SPACE", (.int 9)), ("MOST_CABINS", (.int 36)), ("MOST_PLAN_TICKS", (.int 60)), ("DIGIT_BITS", (.int 4)), ("WHOLE_DIGIT", (.int 15)), ("MOST_MARKS", (.int 1000))]
def ci : List Ci := [⟨"Answer", [], [], none, [0]⟩, ⟨"Keeps", ["waits"], [("shows", 16)], some 15, [1, 0]⟩, ⟨"Bars", ["text", "station"], [("shows", 18)], some 17, [2, 0]⟩, ⟨"Right", [], [], none, [3, 0]⟩, ⟨"Wrong", [], [], none, [4, 0]⟩]
def T : List Dd := [d_is_number, d_is_within, d_are_numbers, d_is_triple, d_are_stations, d_is_space, d_is_station, d_is_cabin_count, d_is_plan_ticks, d_need_stations, d_need_space, d_need_cabin_count, d_need_plan_ticks, d_need_rope, d_need_plan, d_Keeps___init__, d_Keeps_shows, d_Bars___init__, d_Bars_shows, d_copied, d_all_rides, d_all_stays, d_has_no_wait, d_planned, d_waits_beyond_stays, d__law_cell_at, d__law_draw, d__law_number, d__law_plan, d__law_is_keeps, d__law_is_bars, d__law_plain, d__law_says, d__law_can, d__law_due, d__law_right, d_law]
abbrev n_is_number : Nat := 0
abbrev n_is_within : Nat := 1
abbrev n_are_numbers : Nat := 2
abbrev n_is_triple : Nat := 3
abbrev n_are_stations : Nat := 4
abbrev n_is_space : Nat := 5
abbrev n_is_station : Nat := 6
abbrev n_is_cabin_count : Nat := 7
abbrev n_is_plan_ticks : Nat := 8
abbrev n_need_stations : Nat := 9
abbrev n_need_space : Nat := 10
abbrev n_need_cabin_count : Nat := 11
abbrev n_need_plan_ticks : Nat := 12
abbrev n_need_rope : Nat := 13
abbrev n_need_plan : Nat := 14
abbrev n_Keeps___init__ : Nat := 15
abbrev n_Keeps_shows : Nat := 16
abbrev n_Bars___init__ : Nat := 17
abbrev n_Bars_shows : Nat := 18
abbrev n_copied : Nat := 19
abbrev n_all_rides : Nat := 20
abbrev n_all_stays : Nat := 21
abbrev n_has_no_wait : Nat := 22
abbrev n_planned : Nat := 23
abbrev n_waits_beyond_stays : Nat := 24
abbrev n__law_cell_at : Nat := 25
abbrev n__law_draw : Nat := 26
abbrev n__law_number : Nat := 27
abbrev n__law_plan : Nat := 28
abbrev n__law_is_keeps : Nat := 29
abbrev n__law_is_bars : Nat := 30
abbrev n__law_plain : Nat := 31
abbrev n__law_says : Nat := 32
abbrev n__law_can : Nat := 33
abbrev n__law_due : Nat := 34
abbrev n__law_right : Nat := 35
abbrev n_law : Nat := 36
end L
namespace L
open PySem L2 R
set_option maxHeartbeats 0
theorem chk : ∀ d ∈ T, chkD T gc ci d = true := by decide +kernel
theorem scs : ∀ d ∈ T, scopeB d.N d.ps (defScope d.st) = true := by decide +kernel
end L

end

section
set_option Elab.async false
set_option linter.all false
set_option maxRecDepth 10000
namespace L
open PySem L2 R
set_option maxHeartbeats 2000000
abbrev P := T.map Dd.df
section
variable {W n : Nat} {h : AH} {ns : List Int}
@[simp] theorem atI_1 {α : Type} {x y : α} {xs : List α} : atI (x :: y :: xs) 1 = some y := by
  have := atI_nat (xs := x :: y :: xs) (i := 1) (by simp)
  simpa using this
@[simp] theorem atI_2 {α : Type} {x y z : α} {xs : List α} : atI (x :: y :: z :: xs) 2 = some z := by
  have := atI_nat (xs := x :: y :: z :: xs) (i := 2) (by simp)
  simpa using this
theorem small_of {i : Int} (h1 : -1000000000000 ≤ i) (h2 : i ≤ 1000000000000) : small i = true := by
  unfold small
  rw [Nat.ble_eq]
  omega
def cel (ns : List Int) (k : Nat) : Int := ns.getD k 0
theorem cell_ok {k : Int} (h0 : 0 ≤ k) : callD P W (n + 1) n__law_cell_at [.kl (ns.map .int), .int k] h = .ok (.int (cel ns k.toNat)) h := by
  rw [callD_eq (d := d__law_cell_at.df) rfl rfl]
  show (exs _ W b__law_cell_at [some (.kl (ns.map .int)), some (.int k)] h).bind endD = _
  obtain ⟨j, rfl⟩ := Int.eq_ofNat_of_zero_le h0
  by_cases c : j < ns.length
  · have c' : (j : Int) < (ns.length : Int) := by omega
    have e : atI (ns.map AV.int) (j : Int) = some (.int ns[j]) := by
      rw [atI_nat (by simpa using c)]
      simp [c]
    simp [b__law_cell_at, c', e, c, cel]
  · have c' : ¬ (j : Int) < (ns.length : Int) := by omega
    simp [b__law_cell_at, c', c, cel]
theorem draw_ok {c k m : Int} (hm : 0 < m) : ∃ r : Int, 0 ≤ r ∧ r < m ∧ ∀ W n h, callD P W (n + 1) n__law_draw [.int c, .int k, .int m] h = .ok (.int r) h := by
  have s1 : small 48271 = true := rfl
  have s2 : small 69621 = true := rfl
  have h1 : 0 ≤ k % 16 := by omega
  have h2 : k % 16 < 16 := by omega
  generalize e : k % 16 = j at h1 h2
  have key : ∃ p : Int, 0 < p ∧ atI [AV.int 1000003, .int 1000033, .int 1000037, .int 1000039, .int 1000081, .int 1000099, .int 1000117, .int 1000121, .int 1000133, .int 1000151, .int 1000159, .int 1000171, .int 1000183, .int 1000187, .int 1000193, .int 1000199] j = some (.int p) := by
    have : j = 0 ∨ j = 1 ∨ j = 2 ∨ j = 3 ∨ j = 4 ∨ j = 5 ∨ j = 6 ∨ j = 7 ∨ j = 8 ∨ j = 9 ∨ j = 10 ∨ j = 11 ∨ j = 12 ∨ j = 13 ∨ j = 14 ∨ j = 15 := by omega
    rcases this with rfl | rfl | rfl | rfl | rfl | rfl | rfl | rfl | rfl | rfl | rfl | rfl | rfl | rfl | rfl | rfl <;> exact ⟨_, by decide, rfl⟩
  obtain ⟨p, hp, ea⟩ := key
  refine ⟨(c * 48271 + k * 69621) % p % m, Int.emod_nonneg _ (by omega), Int.emod_lt_of_pos _ hm, fun W n h => ?_⟩
  rw [callD_eq (d := d__law_draw.df) rfl rfl]
  show (exs (callD P W n) W b__law_draw [some (.int c), some (.int k), some (.int m), none] h).bind endD = _
  simp [b__law_draw, s1, s2, e, ea, hp, hm]
theorem number_ok {c k m : Int} (hk0 : 0 ≤ k) (hk : k ≤ 1000) (hm : 0 < m) : ∃ r : Int, 0 ≤ r ∧ r < m ∧ ∀ W n h, callD P W (n + 2) n__law_number [.int c, .int k, .int m] h = .ok (.int r) h := by
  have hpw : pwOk 10 18 = true := by decide
  by_cases c1 : (1000000000000000000 : Int) ≤ c
  · have h1 : 0 ≤ k % 5 := by omega
    have h2 : k % 5 < 5 := by omega
    generalize e : k % 5 = j at h1 h2
    have key : ∃ p : Int, fdOk p = true ∧ atI [AV.int 1, .int 7, .int 49, .int 343, .int 2401] j = some (.int p) := by
      have : j = 0 ∨ j = 1 ∨ j = 2 ∨ j = 3 ∨ j = 4 := by omega
      rcases this with rfl | rfl | rfl | rfl | rfl <;> exact ⟨_, by decide, rfl⟩
    obtain ⟨p, hp, ea⟩ := key
    refine ⟨(c - 1000000000000000000) / p % m, Int.emod_nonneg _ (by omega), Int.emod_lt_of_pos _ hm, fun W n h => ?_⟩
    rw [callD_eq (d := d__law_number.df) rfl rfl]
    show (exs (callD P W (n + 1)) W b__law_number [some (.int c), some (.int k), some (.int m), none] h).bind endD = _
    simp [b__law_number, hpw, c1, e, ea, hp, hm]
  · have d := fun (a b : Int) => draw_ok (c := a) (k := b) (m := 999983) (by decide)
    have s1 : small 977 = true := rfl
    have s2 : small 31 = true := rfl
    have s3 : small (c % 1000003 + 977 * k) = true := small_of (by omega) (by omega)
    obtain ⟨r, r1, r2, r3⟩ := d ((c % 1000003 + 977 * k) * (c % 1000003 + 31 * k + 5)) (k % 9 + 1)
    refine ⟨r % m, Int.emod_nonneg _ (by omega), Int.emod_lt_of_pos _ hm, fun W n h => ?_⟩
    rw [callD_eq (d := d__law_number.df) rfl rfl]
    show (exs (callD P W (n + 1)) W b__law_number [some (.int c), some (.int k), some (.int m), none] h).bind endD = _
    simp [b__law_number, hpw, c1, s1, s2, s3, r3, hm]
open Classical in
noncomputable def numF (c k m : Int) : Int := if q : ∃ r : Int, 0 ≤ r ∧ r < m ∧ ∀ W n h, callD P W (n + 2) n__law_number [.int c, .int k, .int m] h = .ok (.int r) h then choose q else 0
theorem numF_ok {c k m : Int} (hk0 : 0 ≤ k) (hk : k ≤ 1000) (hm : 0 < m) : 0 ≤ numF c k m ∧ numF c k m < m ∧ ∀ W n h, callD P W (n + 2) n__law_number [.int c, .int k, .int m] h = .ok (.int (numF c k m)) h := by
  have q := number_ok (c := c) hk0 hk hm
  unfold numF
  rw [dif_pos q]
  exact Classical.choose_spec q
def wkPk (xs : List AV) : Wk := ⟨xs.length, false, fun _ i => some xs[i]?⟩
@[simp] theorem wkEach_peek {xs : List AV} {h : AH} : wkEach (.peek xs) h = some (wkPk xs) := rfl
@[simp] theorem wkPk_n {xs : List AV} : (wkPk xs).n = xs.length := rfl
@[simp] theorem wkPk_item {xs : List AV} : (wkPk xs).item = (wkL xs).item := rfl
theorem comp_mapE {α : Type} {turn : AV → AH → Res (Option AV)} {items : List AV} {m : Nat} {h : AH} {k : List AV → AH → Res α} {Q : α → AH → Prop} (ys : List AV) (hm : items.length = m) (hl : ys.length = m)
    (step : ∀ (i : Nat) (v y : AV), items[i]? = some v → ys[i]? = some y → turn v h = .ok (some y) h) (fin : ∃ a h'', k ys h = .ok a h'' ∧ Q a h'') : ∃ a h'', (compGo (wkL items).item turn m 0 [] h).bind k = .ok a h'' ∧ Q a h'' := by
  rw [comp_map ys hm hl step rfl]
  exact fin
abbrev St3 := Int × Int × Int
def triV (t : St3) : AV := .tup [.int t.1, .int t.2.1, .int t.2.2]
theorem comp_tri {α : Type} {turn : AV → AH → Res (Option AV)} {ts : List St3} {m : Nat} {h : AH} {k : List AV → AH → Res α} {r : Res α} (f : St3 → AV) (hm : ts.length = m)
    (step : ∀ t ∈ ts, turn (triV t) h = .ok (some (f t)) h) (fin : k (ts.map f) h = r) : (compGo (wkL (ts.map triV)).item turn m 0 [] h).bind k = r := by
  refine comp_map (ts.map f) (by simpa using hm) (by simpa using hm) (fun i v y hv hy => ?_) fin
  rw [List.getElem?_map] at hv hy
  cases e : ts[i]? with
  | none => rw [e] at hv; simp at hv
  | some t =>
    rw [e] at hv hy
    simp at hv hy
    subst hv; subst hy
    exact step t (List.mem_of_getElem? e)
/-- a sum over the stations -/
theorem sum_tri {α : Type} {turn : AV → AH → Res (Option AV)} {ts : List St3} {m : Nat} {h : AH} {k : AV → AH → Res α} {r : Res α} (f : St3 → Int) (hm : ts.length = m) (hl : ts.length ≤ lim)
    (step : ∀ t ∈ ts, turn (triV t) h = .ok (some (.int (f t))) h) (fin : k (.int (ts.map f).sum) h = r) : ((compGo (wkL (ts.map triV)).item turn m 0 [] h).bind fun xs h2 => (mkL .fz xs h2).bind fun a h => (bltv .sum .fz [a] h).bind k) = r := by
  refine comp_tri (fun t => .int (f t)) hm step ?_
  rw [mkL_fz (by simpa using hl), bind_ok]
  have e : (ts.map fun t => AV.int (f t)) = (ts.map f).map .int := by simp
  rw [e, sum_lst, bind_ok]
  exact fin
theorem sum_triE {α : Type} {turn : AV → AH → Res (Option AV)} {ts : List St3} {m : Nat} {h : AH} {k : AV → AH → Res α} {Q : α → AH → Prop} (f : St3 → Int) (hm : ts.length = m) (hl : ts.length ≤ lim)
    (step : ∀ t ∈ ts, turn (triV t) h = .ok (some (.int (f t))) h) (fin : ∃ a h'', k (.int (ts.map f).sum) h = .ok a h'' ∧ Q a h'') : ∃ a h'', ((compGo (wkL (ts.map triV)).item turn m 0 [] h).bind fun xs h2 => (mkL .fz xs h2).bind fun a h => (bltv .sum .fz [a] h).bind k) = .ok a h'' ∧ Q a h'' := by
  rw [sum_tri f hm hl step rfl]
  exact fin
theorem comp_triL {α : Type} {item : AH → Nat → Option (Option AV)} {turn : AV → AH → Res (Option AV)} {ts : List St3} {m : Nat} {h : AH} {k : List AV → AH → Res α} {r : Res α} (f : St3 → AV) (hm : ts.length = m) (hit : ∀ i, item h i = some (ts.map triV)[i]?)
    (step : ∀ t ∈ ts, turn (triV t) h = .ok (some (f t)) h) (fin : k (ts.map f) h = r) : (compGo item turn m 0 [] h).bind k = r := by
  refine comp_mapW (items := ts.map triV) (ts.map f) (by simpa using hm) (by simpa using hm) hit (fun i v y hv hy => ?_) fin
  rw [List.getElem?_map] at hv hy
  cases e : ts[i]? with
  | none => rw [e] at hv; simp at hv
  | some t =>
    rw [e] at hv hy
    simp at hv hy
    subst hv; subst hy
    exact step t (List.mem_of_getElem? e)
theorem sum_triL {α : Type} {item : AH → Nat → Option (Option AV)} {turn : AV → AH → Res (Option AV)} {ts : List St3} {m : Nat} {h : AH} {k : AV → AH → Res α} {r : Res α} (f : St3 → Int) (hm : ts.length = m) (hl : ts.length ≤ lim) (hit : ∀ i, item h i = some (ts.map triV)[i]?)
    (step : ∀ t ∈ ts, turn (triV t) h = .ok (some (.int (f t))) h) (fin : k (.int (ts.map f).sum) h = r) : ((compGo item turn m 0 [] h).bind fun xs h2 => (mkL .fz xs h2).bind fun a h => (bltv .sum .fz [a] h).bind k) = r := by
  refine comp_triL (fun t => .int (f t)) hm hit step ?_
  rw [mkL_fz (by simpa using hl), bind_ok]
  have e : (ts.map fun t => AV.int (f t)) = (ts.map f).map .int := by simp
  rw [e, sum_lst, bind_ok]
  exact fin
theorem fd_of {i : Int} (h1 : 1 ≤ i) (h2 : i ≤ 1000) : fdOk i = true := by
  obtain ⟨j, rfl⟩ := Int.eq_ofNat_of_zero_le (show 0 ≤ i by omega)
  have : ∀ j : Nat, j < 1001 → 1 ≤ j → fdOk (j : Int) = true := by decide +kernel
  exact this j (by omega) (by omega)
structure StOk (ts : List St3) (sp : Int) : Prop where
  l1 : 1 ≤ ts.length
  l2 : ts.length ≤ 4
  r : ∀ t ∈ ts, 1 ≤ t.1 ∧ t.1 ≤ 30 ∧ 0 ≤ t.2.1 ∧ t.2.1 ≤ 20 ∧ 1 ≤ t.2.2 ∧ t.2.2 ≤ 9
  s1 : 1 ≤ sp
  s2 : sp ≤ 9
def Tri (t : St3) : Prop := 1 ≤ t.1 ∧ t.1 ≤ 30 ∧ 0 ≤ t.2.1 ∧ t.2.1 ≤ 20 ∧ 1 ≤ t.2.2 ∧ t.2.2 ≤ 9
noncomputable def triF (ns : List Int) (b : Nat) (kd : Int) (i : Nat) : St3 :=
  let o : Int := cel ns (b + i + 1) + 31 * (i : Int)
  (1 + numF o ((i : Int) + 1) 30, numF o ((i : Int) + 2) 21, 1 + numF o ((i : Int) + 3) (if kd < 2 then 9 else 3))
theorem triF_ok {b i : Nat} {kd : Int} (hi : i < 4) : Tri (triF ns b kd i) := by
  unfold Tri triF
  have nm := fun (x k m : Int) => numF_ok (c := x) (k := k) (m := m)
  obtain ⟨a1, a2, a3⟩ := nm (cel ns (b + i + 1) + 31 * (i : Int)) ((i : Int) + 1) 30 (by omega) (by omega) (by omega)
  obtain ⟨b1, b2, b3⟩ := nm (cel ns (b + i + 1) + 31 * (i : Int)) ((i : Int) + 2) 21 (by omega) (by omega) (by omega)
  obtain ⟨c1, c2, c3⟩ := nm (cel ns (b + i + 1) + 31 * (i : Int)) ((i : Int) + 3) (if kd < 2 then 9 else 3) (by omega) (by omega) (by split <;> omega)
  have : (if kd < 2 then (9 : Int) else 3) ≤ 9 := by split <;> omega
  simp only
  refine ⟨?_, ?_, ?_, ?_, ?_, ?_⟩ <;> omega
structure PlanOk (ts : List St3) (sp m t : Int) : Prop where
  st : StOk ts sp
  m1 : 1 ≤ m
  m2 : m ≤ 36
  t1 : 1 ≤ t
  t2 : t ≤ 60
theorem plan_ok {b : Nat} (hb : b < 50) : ∃ a h', callD P W (n + 3) n__law_plan [.kl (ns.map .int), .int b] h = .ok a h' ∧ ∃ (ts : List St3) (sp m t : Int), PlanOk ts sp m t ∧ a = .tup [.lst (ts.map triV), .int sp, .int m, .int t] ∧ h' = h := by
  rw [callD_eq (d := d__law_plan.df) rfl rfl]
  let c : Int := cel ns b
  have nm := fun (x k m : Int) => numF_ok (c := x) (k := k) (m := m)
  obtain ⟨a1, a2, a3⟩ := nm c ((b : Int) + 1) 4 (by omega) (by omega) (by omega)
  obtain ⟨b1, b2, b3⟩ := nm c ((b : Int) + 2) 4 (by omega) (by omega) (by omega)
  have hc := cell_ok (W := W) (n := n + 1) (ns := ns) (h := h) (k := (b : Int)) (by omega)
  have e0 : (b : Int).toNat = b := by omega
  rw [e0] at hc
  change callD P W (n + 2) n__law_cell_at _ h = .ok (.int c) h at hc
  let kd : Int := numF c ((b : Int) + 1) 4
  change ∀ W n h, callD P W (n + 2) n__law_number [.int c, .int ((b : Int) + 1), .int 4] h = .ok (.int kd) h at a3
  have hL := lim_big
  have rg : (1 + numF c ((b : Int) + 2) 4).toNat ≤ 4 := by omega
  have rk : rgOk (1 + numF c ((b : Int) + 2) 4) = true := by
    unfold rgOk; simp; omega
  have rl : ¬ lim < (1 + numF c ((b : Int) + 2) 4).toNat := by omega
  suffices q : ∃ a h', (exs (callD P W (n + 2)) W b__law_plan ([some (.kl (ns.map .int)), some (.int b)] ++ List.replicate 11 none) h).bind endD = .ok a h' ∧ ∃ (ts : List St3) (sp m t : Int), PlanOk ts sp m t ∧ a = .tup [.lst (ts.map triV), .int sp, .int m, .int t] ∧ h' = h from q
  simp [b__law_plan, hc, a3, b3, rk, rl]
  refine for_ex (fun i σ h' => h' = h ∧ ∃ x3 x7 x10 x11, σ = [some (.kl (ns.map .int)), some (.int b), some (.int c), x3, none, some (.int kd), some (.own ((List.range i).map fun i => triV (triF ns b kd i))), x7, none, none, x10, x11, none]) (by simp) ⟨rfl, _, _, _, _, rfl⟩ ?_ ?_
  · rintro i v σ h' hv ⟨rfl, x3, x7, x10, x11, rfl⟩
    obtain ⟨hi, rfl⟩ := rngL_get hv
    have e1 : (0 : Int) + (i : Int) = i := by omega
    rw [e1]
    have hc := cell_ok (W := W) (n := n + 1) (ns := ns) (h := h') (k := (b : Int) + i + 1) (by omega)
    have e2 : ((b : Int) + i + 1).toNat = b + i + 1 := by omega
    rw [e2] at hc
    obtain ⟨p1, p2, p3⟩ := nm (cel ns (b + i + 1) + 31 * (i : Int)) ((i : Int) + 1) 30 (by omega) (by omega) (by omega)
    obtain ⟨q1, q2, q3⟩ := nm (cel ns (b + i + 1) + 31 * (i : Int)) ((i : Int) + 2) 21 (by omega) (by omega) (by omega)
    obtain ⟨r1, r2, r3⟩ := nm (cel ns (b + i + 1) + 31 * (i : Int)) ((i : Int) + 3) (if kd < 2 then 9 else 3) (by omega) (by omega) (by split <;> omega)
    have s1 : small 31 = true := rfl
    have hil : i < lim := by omega
    refine ⟨_, h', ?_, rfl, some (.int i), some (.int (cel ns (b + i + 1) + 31 * (i : Int))), some (.int (1 + numF (cel ns (b + i + 1) + 31 * (i : Int)) ((i : Int) + 1) 30)), some (.int (numF (cel ns (b + i + 1) + 31 * (i : Int)) ((i : Int) + 2) 21)), rfl⟩
    by_cases k2 : kd < 2
    · rw [if_pos k2] at r3
      have e3 : triV (triF ns b kd i) = .tup [.int (1 + numF (cel ns (b + i + 1) + 31 * (i : Int)) ((i : Int) + 1) 30), .int (numF (cel ns (b + i + 1) + 31 * (i : Int)) ((i : Int) + 2) 21), .int (1 + numF (cel ns (b + i + 1) + 31 * (i : Int)) ((i : Int) + 3) 9)] := by
        unfold triV triF; simp [k2]
      simp [R.forTurn, hc, s1, p3, q3, r3, k2, List.range_succ, e3, le_lim, hil]
    · rw [if_neg k2] at r3
      have e3 : triV (triF ns b kd i) = .tup [.int (1 + numF (cel ns (b + i + 1) + 31 * (i : Int)) ((i : Int) + 1) 30), .int (numF (cel ns (b + i + 1) + 31 * (i : Int)) ((i : Int) + 2) 21), .int (1 + numF (cel ns (b + i + 1) + 31 * (i : Int)) ((i : Int) + 3) 3)] := by
        unfold triV triF; simp [k2]
      simp [R.forTurn, hc, s1, p3, q3, r3, k2, List.range_succ, e3, le_lim, hil]
  · rintro σ h' ⟨rfl, x3, x7, x10, x11, rfl⟩
    obtain ⟨p1, p2, p3⟩ := nm c ((b : Int) + 3) 9 (by omega) (by omega) (by omega)
    obtain ⟨q1, q2, q3⟩ := nm c ((b : Int) + 4) (if kd = 3 then 6 else 30) (by omega) (by omega) (by split <;> omega)
    obtain ⟨r1, r2, r3⟩ := nm c ((b : Int) + 5) 36 (by omega) (by omega) (by omega)
    obtain ⟨t1, t2, t3⟩ := nm c ((b : Int) + 6) 2 (by omega) (by omega) (by omega)
    have u : (if kd = 3 then (6 : Int) else 30) ≤ 30 := by split <;> omega
    generalize hm : (1 + numF c ((b : Int) + 2) 4).toNat = m at *
    have so : StOk ((List.range m).map fun i => triF ns b kd i) (1 + numF c ((b : Int) + 3) 9) := by
      refine ⟨by simp; omega, by simp; omega, fun t ht => ?_, by omega, by omega⟩
      obtain ⟨i, hi, rfl⟩ := List.mem_map.mp ht
      have := List.mem_range.mp hi
      exact triF_ok (by omega)
    have ql : ∀ q : Int, 1 ≤ max 1 (min 36 q) ∧ max 1 (min 36 q) ≤ 36 := by intro q; omega
    obtain ⟨ts, hts⟩ : ∃ ts, ts = (List.range m).map fun i => triF ns b kd i := ⟨_, rfl⟩
    have e : (List.range m).map (fun i => triV (triF ns b kd i)) = ts.map triV := by rw [hts, List.map_map]; rfl
    rw [e]
    rw [← hts] at so
    have l1 := so.l1
    have l2 := so.l2
    have hm2 : ¬ lim < ts.length := by omega
    have hm3 : ts.length ≤ lim := by omega
    have tk : ∀ t : Int, t = 1 + numF c ((b : Int) + 4) (if kd = 3 then 6 else 30) → 1 ≤ t ∧ t ≤ 30 := by intro t ht; omega
    have mk : ∀ x y : Int, (1 ≤ y ∧ y ≤ 30) → PlanOk ts (1 + numF c ((b : Int) + 3) 9) (if 1 < (if x < 36 then x else 36) then (if x < 36 then x else 36) else 1) y := fun x y hy => ⟨so, by split <;> omega, by split <;> split <;> omega, hy.1, by omega⟩
    by_cases k3 : kd = 3
    · rw [if_pos k3] at q3 tk
      simp [p3, q3, r3, t3, k3]
      exact ⟨_, _, ⟨rfl, rfl⟩, _, _, _, _, mk _ _ (tk _ rfl), rfl, rfl⟩
    · rw [if_neg k3] at q3 tk
      have fd := fd_of (tk _ rfl).1 (by have := (tk _ rfl).2; omega)
      by_cases k1 : kd = 1
      · simp [p3, q3, r3, t3, k1, hm2]
        refine sum_triE (fun t => t.1 + t.2.1) rfl hm3 (fun t ht => by simp [R.compTurn, triV]) ?_
        simp [fd]
        exact ⟨_, _, ⟨rfl, rfl⟩, _, _, _, _, mk _ _ (tk _ rfl), rfl, rfl⟩
      · by_cases k2 : kd = 2
        · simp [p3, q3, r3, t3, k2, hm2]
          refine sum_triE (fun t => t.1 + t.2.2 * (1 + numF c ((b : Int) + 4) 30) - 1) rfl hm3 (fun t ht => ?_) ?_
          · have := so.r t ht
            have sm : small t.2.2 = true := small_of (by omega) (by omega)
            simp [R.compTurn, triV, sm]
          · simp [fd]
            exact ⟨_, _, ⟨rfl, rfl⟩, _, _, _, _, mk _ _ (tk _ rfl), rfl, rfl⟩
        · simp [p3, q3, r3, t3, k1, k2, k3]
          exact ⟨_, _, ⟨rfl, rfl⟩, _, _, _, _, mk _ _ (tk _ rfl), rfl, rfl⟩
end
end L

end

section
set_option Elab.async false
set_option linter.all false
set_option maxRecDepth 10000
namespace L
open PySem L2 R
set_option maxHeartbeats 2000000
def fitB (t : Int) (s : St3) (w : Int) : Bool := decide (s.2.1 ≤ w ∧ w < s.2.2 * t)
def fits (t : Int) (ts : List St3) (ws : List Int) : Bool := (List.zipWith (fitB t) ts ws).all id
def keepsB (ts : List St3) (sp m t : Int) (ws : List Int) : Bool := decide (ws.length = ts.length) && decide (sp ≤ t) && fits t ts ws && decide (ws.sum + (ts.map (·.1)).sum = m * t)
theorem fits_iff {t : Int} {ts : List St3} {ws : List Int} (hl : ws.length = ts.length) : fits t ts ws = true ↔ ∀ (i : Nat) (s : St3) (w : Int), ts[i]? = some s → ws[i]? = some w → s.2.1 ≤ w ∧ w < s.2.2 * t := by
  unfold fits
  rw [List.all_eq_true]
  constructor
  · intro q i s w e1 e2
    have : (List.zipWith (fitB t) ts ws)[i]? = some (fitB t s w) := by rw [List.getElem?_zipWith, e1, e2]
    have := q _ (List.mem_of_getElem? this)
    simpa [fitB] using this
  · intro q x hx
    obtain ⟨i, hi, rfl⟩ := List.getElem_of_mem hx
    simp at hi
    rw [List.getElem_zipWith]
    have := q i ts[i] ws[i] (List.getElem?_eq_getElem (by omega)) (List.getElem?_eq_getElem (by omega))
    simpa [fitB] using this
section
variable {W n : Nat} {h : AH} {ts : List St3} {sp m t : Int} {ws : List Int}
theorem isKeeps_okL {v : AV} (l : LV h v (ws.map .int)) (k : PlanOk ts sp m t) (hw : ws.length ≤ 1000) : callD P W (n + 1) n__law_is_keeps [.lst (ts.map triV), .int sp, .int m, .int t, v] h = .ok (.bl (keepsB ts sp m t ws)) h := by
  rw [callD_eq (d := d__law_is_keeps.df) rfl rfl]
  show (exs _ W b__law_is_keeps ([some (.lst (ts.map triV)), some (.int sp), some (.int m), some (.int t), some v] ++ List.replicate 2 none) h).bind endD = _
  have l1 := k.st.l1
  have l2 := k.st.l2
  have hL := lim_big
  have hl3 : ¬ lim < ts.length := by omega
  have hl4 : ts.length ≤ lim := by omega
  by_cases hl : ws.length = ts.length
  · by_cases hs : t < sp
    · have : keepsB ts sp m t ws = false := by simp [keepsB]; omega
      simp [b__law_is_keeps, l.pk, l.len, hl, hs, this]
    · simp [b__law_is_keeps, l.pk, l.len, hl, hs, hl3]
      refine for_useR (fun i σ h' => h' = h ∧ (∃ x5 x6, σ = [some (.lst (ts.map triV)), some (.int sp), some (.int m), some (.int t), some v, x5, x6]) ∧ ∀ (j : Nat) (s : St3) (w : Int), j < i → ts[j]? = some s → ws[j]? = some w → s.2.1 ≤ w ∧ w < s.2.2 * t) (fun _ w h' => w = .bl false ∧ h' = h ∧ fits t ts ws = false) rfl ⟨rfl, ⟨_, _, rfl⟩, fun j s w hj => absurd hj (by omega)⟩ ?_ ?_ ?_
      · rintro i x σ h' hv ⟨rfl, ⟨x5, x6, rfl⟩, all⟩
        rw [enumL_get, List.getElem?_map] at hv
        cases e1 : ts[i]? with
        | none => rw [e1] at hv; simp at hv
        | some s =>
          rw [e1] at hv
          simp at hv
          subst hv
          have hi : i < ws.length := by rw [hl]; exact (List.getElem?_eq_some_iff.mp e1).1
          have e2 : ws[i]? = some ws[i] := List.getElem?_eq_getElem hi
          generalize ws[i] = w at e2
          have e3 : atI (ws.map AV.int) (i : Int) = some (.int w) := by rw [atI_nat (by simpa using hi), List.getElem?_map, e2]; rfl
          have := k.st.r s (List.mem_of_getElem? e1)
          have sm : small s.2.2 = true := small_of (by omega) (by omega)
          by_cases c : s.2.1 ≤ w ∧ w < s.2.2 * t
          · refine .inl ⟨_, h', ?_, rfl, ⟨some (.int i), some (triV s), rfl⟩, ?_⟩
            · simp [R.forTurn, l.pk, l.idx, triV, e3, sm, c.1, c.2]
            · intro j s' w' hj f1 f2
              by_cases hji : j = i
              · subst hji
                rw [e1] at f1; rw [e2] at f2
                cases f1; cases f2
                exact c
              · exact all j s' w' (by omega) f1 f2
          · refine .inr ⟨.bl false, h', ?_, rfl, rfl, ?_⟩
            · by_cases c1 : s.2.1 ≤ w
              · have c2 : ¬ w < s.2.2 * t := fun q => c ⟨c1, q⟩
                simp [R.forTurn, l.pk, l.idx, triV, e3, sm, c1, c2]
              · simp [R.forTurn, l.pk, l.idx, triV, e3, sm, c1]
            · rw [← Bool.not_eq_true, fits_iff hl]
              intro q
              exact c (q i s w e1 e2)
      · rintro σ h' ⟨rfl, ⟨x5, x6, rfl⟩, all⟩
        have f : fits t ts ws = true := (fits_iff hl).mpr fun i s w e1 e2 => all i s w (by rw [enumL_len]; simp; exact (List.getElem?_eq_some_iff.mp e1).1) e1 e2
        simp [sum_q l.rdL, l.pk, hl3]
        refine sum_tri (fun s => s.1) rfl hl4 (fun s hs => by simp [R.compTurn, triV]) ?_
        have := k.t1
        have := k.t2
        have sm : small t = true := small_of (by omega) (by omega)
        simp [sm, keepsB, f, hl]
        omega
      · rintro i w h' hi ⟨rfl, rfl, f⟩
        simp [keepsB, f]
  · have : keepsB ts sp m t ws = false := by simp [keepsB, hl]
    have hl' : ¬ (ws.length : Int) = ts.length := by omega
    simp [b__law_is_keeps, l.pk, l.len, hl', this]
theorem isKeeps_ok (k : PlanOk ts sp m t) (hw : ws.length ≤ 1000) : callD P W (n + 1) n__law_is_keeps [.lst (ts.map triV), .int sp, .int m, .int t, .lst (ws.map .int)] h = .ok (.bl (keepsB ts sp m t ws)) h := isKeeps_okL (.inl rfl) k hw
end
end L

end

section
set_option Elab.async false
set_option linter.all false
set_option maxRecDepth 10000
namespace L
open PySem L2 R
set_option maxHeartbeats 2000000
section
variable {W n : Nat} {h : AH} {ts : List St3} {sp m t : Int} {ws : List Int}
@[simp] theorem ty_int {i : Int} : tyA h (.int i) = some "int" := rfl
@[simp] theorem ty_bl {i : Bool} : tyA h (.bl i) = some "bool" := rfl
@[simp] theorem ty_non : tyA h .non = some "NoneType" := rfl
@[simp] theorem ty_str {x : Str} : tyA h (.str x) = some "str" := rfl
@[simp] theorem ty_tup {xs : List AV} : tyA h (.tup xs) = some "tuple" := rfl
@[simp] theorem ty_lst {xs : List AV} : tyA h (.lst xs) = some "list" := rfl
@[simp] theorem isT1 : isT "int" .int = true := by decide
@[simp] theorem isT2 : isT "int" .bool = false := by decide
@[simp] theorem isT3 : isT "tuple" .tuple = true := by decide
@[simp] theorem isT4 : isT "list" .list = true := by decide
@[simp] theorem isT5 : isT "bool" .bool = true := by decide
@[simp] theorem isT6 : isT "NoneType" .int = false := by decide
@[simp] theorem isT7 : isT "str" .list = false := by decide
@[simp] theorem isT8 : isT "int" .list = false := by decide
@[simp] theorem isT9 : isT "NoneType" .list = false := by decide
theorem isNum_ok {i : Int} : callD P W (n + 1) n_is_number [.int i] h = .ok (.bl true) h := by
  rw [callD_eq (d := d_is_number.df) rfl rfl]
  show (exs _ W b_is_number [some (.int i)] h).bind endD = _
  simp [b_is_number]
theorem isNum_non : callD P W (n + 1) n_is_number [.non] h = .ok (.bl false) h := by
  rw [callD_eq (d := d_is_number.df) rfl rfl]
  show (exs _ W b_is_number [some .non] h).bind endD = _
  simp [b_is_number]
theorem within_ok {i a b : Int} : callD P W (n + 2) n_is_within [.int i, .int a, .int b] h = .ok (.bl (decide (a ≤ i ∧ i ≤ b))) h := by
  rw [callD_eq (d := d_is_within.df) rfl rfl]
  show (exs _ W b_is_within [some (.int i), some (.int a), some (.int b)] h).bind endD = _
  by_cases h1 : a ≤ i
  · by_cases h2 : i ≤ b <;> simp [b_is_within, isNum_ok, h1, h2]
  · simp [b_is_within, isNum_ok, h1]
theorem within_non {a b : Int} : callD P W (n + 2) n_is_within [.non, .int a, .int b] h = .ok (.bl false) h := by
  rw [callD_eq (d := d_is_within.df) rfl rfl]
  show (exs _ W b_is_within [some .non, some (.int a), some (.int b)] h).bind endD = _
  simp [b_is_within, isNum_non]
theorem nums_ok {v : AV} (l : LV h v (ws.map .int)) (hw : ws.length ≤ 1000) : callD P W (n + 2) n_are_numbers [v] h = .ok (.bl true) h := by
  rw [callD_eq (d := d_are_numbers.df) rfl rfl]
  show (exs _ W b_are_numbers [some v, none] h).bind endD = _
  have hL := lim_big
  have hl3 : ¬ lim < ws.length := by omega
  obtain ⟨w, e1, e2, e3, e4⟩ := l.each
  simp [b_are_numbers, l.pk, e1, e2, hl3]
  refine comp_mapW (items := ws.map .int) ((ws.map fun _ => true).map .bl) (by simp) (by simp) (fun i => e4 h i l) ?_ ?_
  · intro i x y hx hy
    simp only [List.getElem?_map] at hx hy
    cases ht : ws[i]? with
    | none => simp [ht] at hx
    | some w =>
      simp [ht] at hx hy
      subst hx; subst hy
      simp [R.compTurn, isNum_ok]
  · rw [mkL_fz (by simp; omega)]
    have : ((ws.map fun _ => true).all id) = true := by simp
    simp only [bind_ok, all_lst, this]
    simp
theorem rides_okL {v : AV} (l : LV h v (ts.map triV)) (l2 : ts.length ≤ 4) : callD P W (n + 1) n_all_rides [v] h = .ok (.int (ts.map (·.1)).sum) h := by
  rw [callD_eq (d := d_all_rides.df) rfl rfl]
  show (exs _ W b_all_rides ([some v] ++ List.replicate 3 none) h).bind endD = _
  have hL := lim_big
  have hl3 : ¬ lim < ts.length := by omega
  obtain ⟨w, e1, e2, e3, e4⟩ := l.each
  simp [b_all_rides, l.pk, e1, e2, hl3]
  exact sum_triL (fun s => s.1) rfl (by omega) (fun i => e4 h i l) (fun s hs => by simp [R.compTurn, triV]) (by simp)
theorem stays_okL {v : AV} (l : LV h v (ts.map triV)) (l2 : ts.length ≤ 4) : callD P W (n + 1) n_all_stays [v] h = .ok (.int (ts.map (·.2.1)).sum) h := by
  rw [callD_eq (d := d_all_stays.df) rfl rfl]
  show (exs _ W b_all_stays ([some v] ++ List.replicate 3 none) h).bind endD = _
  have hL := lim_big
  have hl3 : ¬ lim < ts.length := by omega
  obtain ⟨w, e1, e2, e3, e4⟩ := l.each
  simp [b_all_stays, l.pk, e1, e2, hl3]
  exact sum_triL (fun s => s.2.1) rfl (by omega) (fun i => e4 h i l) (fun s hs => by simp [R.compTurn, triV]) (by simp)
theorem rides_ok (k : StOk ts sp) : callD P W (n + 1) n_all_rides [.lst (ts.map triV)] h = .ok (.int (ts.map (·.1)).sum) h := rides_okL (.inl rfl) k.l2
theorem stays_ok (k : StOk ts sp) : callD P W (n + 1) n_all_stays [.lst (ts.map triV)] h = .ok (.int (ts.map (·.2.1)).sum) h := stays_okL (.inl rfl) k.l2
theorem shows_okL {o q : Nat} {v : AV} (lt : LV h v (ts.map triV)) (k : PlanOk ts sp m t) (hw : ws.length ≤ 1000) (ho : h[o]? = some (.ins 1 [("waits", .ref q)])) (hq : h[q]? = some (.lst (ws.map .int))) :
    callD P W (n + 3) n_Keeps_shows [.ref o, v, .int sp, .int m, .int t] h = .ok (.bl (keepsB ts sp m t ws)) h := by
  rw [callD_eq (d := d_Keeps_shows.df) rfl rfl]
  show (exs _ W b_Keeps_shows ([some (.ref o), some v, some (.int sp), some (.int m), some (.int t)] ++ List.replicate 5 none) h).bind endD = _
  have l1 := k.st.l1
  have l2 := k.st.l2
  have hL := lim_big
  have hl3 : ¬ lim < ts.length := by omega
  have hl4 : ts.length ≤ lim := by omega
  have l : LV h (.ref q) (ws.map .int) := .inr ⟨q, rfl, hq⟩
  have t1 := k.t1
  have t2 := k.t2
  have sm : small t = true := small_of (by omega) (by omega)
  by_cases hl : ws.length = ts.length
  · obtain ⟨w, e1, e2, e3, e4⟩ := l.zip lt
    simp [b_Keeps_shows, ho, lt.pk, lt.len, l.ty, l.len, hl, nums_ok l hw, e1, e2, hl3]
    refine comp_mapW (items := zipL (ws.map .int) (ts.map triV)) ((List.zipWith (fitB t) ts ws).map .bl) (by simp [zipL_len, hl]) (by simp [hl]) (fun i => e4 h i l lt) ?_ ?_
    · intro i x y hx hy
      rw [zipL_get] at hx
      simp only [List.getElem?_map, List.getElem?_zipWith] at hx hy
      cases ht : ts[i]? with
      | none => simp [ht] at hy
      | some s =>
        cases hwi : ws[i]? with
        | none => simp [ht, hwi] at hx
        | some w =>
          simp [ht, hwi] at hx hy
          subst hx; subst hy
          have := k.st.r s (List.mem_of_getElem? ht)
          have sm : small s.2.2 = true := small_of (by omega) (by omega)
          by_cases c1 : s.2.1 ≤ w
          · by_cases c2 : w < s.2.2 * t <;> simp [R.compTurn, triV, sm, c1, c2, fitB]
          · simp [R.compTurn, triV, sm, c1, fitB]
    · rw [mkL_fz (by simp; omega)]
      simp only [bind_ok, all_lst]
      by_cases f : fits t ts ws = true
      · have f' : (List.zipWith (fitB t) ts ws).all id = true := f
        rw [f']
        by_cases c : ws.sum + (ts.map (·.1)).sum = m * t
        · have c' : (ts.map (·.1)).sum + ws.sum = m * t := by omega
          by_cases hs : sp ≤ t <;> simp [rides_okL lt l2, lt.pk, lt.kp, sum_q l.rdL, sm, keepsB, f, hl, c, c', hs]
        · have c' : ¬ (ts.map (·.1)).sum + ws.sum = m * t := by omega
          simp [rides_okL lt l2, lt.pk, lt.kp, sum_q l.rdL, sm, keepsB, f, hl, c, c']
      · rw [Bool.not_eq_true] at f
        have f' : (List.zipWith (fitB t) ts ws).all id = false := f
        rw [f']
        simp [keepsB, f]
  · have : keepsB ts sp m t ws = false := by simp [keepsB, hl]
    have hl' : ¬ (ws.length : Int) = ts.length := by omega
    simp [b_Keeps_shows, ho, lt.pk, lt.len, l.ty, l.len, hl', this]
theorem shows_ok {o q : Nat} (k : PlanOk ts sp m t) (hw : ws.length ≤ 1000) (ho : h[o]? = some (.ins 1 [("waits", .ref q)])) (hq : h[q]? = some (.lst (ws.map .int))) :
    callD P W (n + 3) n_Keeps_shows [.ref o, .lst (ts.map triV), .int sp, .int m, .int t] h = .ok (.bl (keepsB ts sp m t ws)) h := shows_okL (.inl rfl) k hw ho hq
end
end L

end

section
set_option Elab.async false
set_option linter.all false
set_option maxRecDepth 10000
namespace L
open PySem L2 R
set_option maxHeartbeats 2000000
section
variable {W n : Nat} {h : AH} {ts : List St3} {sp m t : Int} {ws : List Int}
def Cp (a : Str) : Prop := ∀ h : AH, toD 8 h (.str a) = some (.str a)
theorem eq_ss {a b : Str} (ha : Cp a) (hb : Cp b) : cmp2v .eq (.str a) (.str b) h = some (decide (a = b)) := by
  unfold cmp2v
  simp only [ha h, hb h]
  rfl
@[simp] theorem cp1 : Cp (Str.ofString "room") := fun h => by simp [toD]; decide
@[simp] theorem cp2 : Cp (Str.ofString "space") := fun h => by simp [toD]; decide
@[simp] theorem cp3 : Cp (Str.ofString "few") := fun h => by simp [toD]; decide
@[simp] theorem cp4 : Cp (Str.ofString "many") := fun h => by simp [toD]; decide
@[simp] theorem eq_bb {a b : Bool} : cmp2v .eq (.bl a) (.bl b) h = some (a == b) := rfl
@[simp] theorem s12 : ((Str.ofString "space" : Str) = Str.ofString "room") = False := by decide
@[simp] theorem s13 : ((Str.ofString "few" : Str) = Str.ofString "room") = False := by decide
@[simp] theorem s23 : ((Str.ofString "few" : Str) = Str.ofString "space") = False := by decide
@[simp] theorem s14 : ((Str.ofString "many" : Str) = Str.ofString "room") = False := by decide
@[simp] theorem s24 : ((Str.ofString "many" : Str) = Str.ofString "space") = False := by decide
@[simp] theorem s34 : ((Str.ofString "many" : Str) = Str.ofString "few") = False := by decide
theorem copied_l {v : AV} (l : LV h v (ws.map .int)) (hw : ws.length ≤ 1000) : callD P W (n + 1) n_copied [v] h = .ok (.ref h.length) (h ++ [.lst (ws.map .int)]) := by
  rw [callD_eq (d := d_copied.df) rfl rfl]
  show (exs _ W b_copied [some v] h).bind endD = _
  have hL := lim_big
  simp [b_copied, l.pk, l.ty, l.list]
  rw [mkL_hp (by simp; omega)]
  simp
theorem copied_s {x : Str} : callD P W (n + 1) n_copied [.str x] h = .ok (.str x) h := by
  rw [callD_eq (d := d_copied.df) rfl rfl]
  show (exs _ W b_copied [some (.str x)] h).bind endD = _
  simp [b_copied]
theorem copied_i {x : Int} : callD P W (n + 1) n_copied [.int x] h = .ok (.int x) h := by
  rw [callD_eq (d := d_copied.df) rfl rfl]
  show (exs _ W b_copied [some (.int x)] h).bind endD = _
  simp [b_copied]
theorem copied_n : callD P W (n + 1) n_copied [.non] h = .ok .non h := by
  rw [callD_eq (d := d_copied.df) rfl rfl]
  show (exs _ W b_copied [some .non] h).bind endD = _
  simp [b_copied]
theorem keepsI {v : AV} (l : LV h v (ws.map .int)) (hw : ws.length ≤ 1000) : callD P W (n + 2) n_Keeps___init__ [.ref h.length, v] (h ++ [.ins 1 []]) = .ok .non (h ++ [.ins 1 [("waits", .ref (h.length + 1))], .lst (ws.map .int)]) := by
  rw [callD_eq (d := d_Keeps___init__.df) rfl rfl]
  show (exs _ W b_Keeps___init__ [some (.ref h.length), some v] (h ++ [.ins 1 []])).bind endD = _
  have l' : LV (h ++ [.ins 1 []]) v (ws.map .int) := l.app
  simp [b_Keeps___init__, l.pk, l.kp, copied_l l' hw]
/-- a station's number or None -/
def opV : Option Int → AV
  | some i => .int i
  | none => .non
theorem barsI {x : Str} {o : Option Int} : callD P W (n + 2) n_Bars___init__ [.ref h.length, .str x, opV o] (h ++ [.ins 2 []]) = .ok .non (h ++ [.ins 2 [("text", .str x), ("station", opV o)]]) := by
  rw [callD_eq (d := d_Bars___init__.df) rfl rfl]
  show (exs _ W b_Bars___init__ [some (.ref h.length), some (.str x), some (opV o)] (h ++ [.ins 2 []])).bind endD = _
  cases o with
  | none => simp [b_Bars___init__, copied_s, copied_n, opV]
  | some i => simp [b_Bars___init__, copied_s, copied_i, opV]
theorem noWait_ok {s : St3} (hs : 1 ≤ s.2.2 ∧ s.2.2 ≤ 9) : callD P W (n + 1) n_has_no_wait [triV s, .int t] h = .ok (.bl (decide (s.2.2 * t ≤ s.2.1))) h := by
  rw [callD_eq (d := d_has_no_wait.df) rfl rfl]
  show (exs _ W b_has_no_wait ([some (triV s), some (.int t)] ++ List.replicate 3 none) h).bind endD = _
  have sm : small s.2.2 = true := small_of (by omega) (by omega)
  simp [b_has_no_wait, triV, sm]
theorem isSt_i {i : Int} : callD P W (n + 3) n_is_station [.int i, .lst (ts.map triV)] h = .ok (.bl (decide (0 ≤ i ∧ i ≤ ts.length - 1))) h := by
  rw [callD_eq (d := d_is_station.df) rfl rfl]
  show (exs _ W b_is_station [some (.int i), some (.lst (ts.map triV))] h).bind endD = _
  simp [b_is_station, within_ok]
theorem isSt_n : callD P W (n + 3) n_is_station [.non, .lst (ts.map triV)] h = .ok (.bl false) h := by
  rw [callD_eq (d := d_is_station.df) rfl rfl]
  show (exs _ W b_is_station [some .non, some (.lst (ts.map triV))] h).bind endD = _
  simp [b_is_station, within_non]
theorem sum_add (f g : St3 → Int) : ∀ ts : List St3, (ts.map fun s => f s + g s).sum = (ts.map f).sum + (ts.map g).sum
  | [] => rfl
  | s :: ts => by
    simp only [List.map_cons, List.sum_cons, sum_add f g ts]
    omega
def barsB (ts : List St3) (sp m t : Int) (x : Str) (o : Option Int) : Bool :=
  if x = "room" then (match o with
    | none => false
    | some i => decide (0 ≤ i ∧ i < ts.length) && decide ((ts[i.toNat]?.getD (0, 0, 0)).2.2 * t ≤ (ts[i.toNat]?.getD (0, 0, 0)).2.1))
  else match o with
    | some _ => false
    | none => if x = "space" then decide (t < sp) else if x = "few" then decide (m * t < (ts.map fun s => s.1 + s.2.1).sum)
      else decide (x = "many") && decide ((ts.map fun s => s.1 + s.2.2 * t - 1).sum < m * t)
theorem isBars_ok {x : Str} {o : Option Int} (k : PlanOk ts sp m t) (cx : Cp x) : callD P W (n + 1) n__law_is_bars [.lst (ts.map triV), .int sp, .int m, .int t, .str x, opV o] h = .ok (.bl (barsB ts sp m t x o)) h := by
  rw [callD_eq (d := d__law_is_bars.df) rfl rfl]
  show (exs _ W b__law_is_bars ([some (.lst (ts.map triV)), some (.int sp), some (.int m), some (.int t), some (.str x), some (opV o)] ++ List.replicate 2 none) h).bind endD = _
  have l1 := k.st.l1
  have l2 := k.st.l2
  have hL := lim_big
  have hl3 : ¬ lim < ts.length := by omega
  have hl4 : ts.length ≤ lim := by omega
  have t1 := k.t1
  have t2 := k.t2
  have smt : small t = true := small_of (by omega) (by omega)
  unfold barsB
  by_cases c1 : x = "room"
  · cases o with
    | none => simp [b__law_is_bars, eq_ss, cx, c1, opV]
    | some i =>
      by_cases b1 : 0 ≤ i
      · by_cases b2 : i < ts.length
        · obtain ⟨j, rfl⟩ := Int.eq_ofNat_of_zero_le b1
          have hj : j < ts.length := by omega
          have e : atI (ts.map triV) (j : Int) = some (triV ts[j]) := by
            rw [atI_nat (by simpa using hj)]
            simp [hj]
          have := k.st.r ts[j] (List.getElem_mem hj)
          have sm : small ts[j].2.2 = true := small_of (by omega) (by omega)
          simp [b__law_is_bars, eq_ss, cx, c1, opV, b2, e, triV, sm, hj]
        · simp [b__law_is_bars, eq_ss, cx, c1, opV, b1, b2]
      · simp [b__law_is_bars, eq_ss, cx, c1, opV, b1]
  · rw [if_neg c1]
    cases o with
    | some i => simp [b__law_is_bars, eq_ss, cx, c1, opV]
    | none =>
      simp only
      by_cases c2 : x = "space"
      · rw [if_pos c2]; simp [b__law_is_bars, eq_ss, cx, c1, c2, opV]
      · rw [if_neg c2]
        by_cases c3 : x = "few"
        · rw [if_pos c3]
          simp [b__law_is_bars, eq_ss, cx, c3, opV, hl3, smt]
          refine sum_tri (fun s => s.1 + s.2.1) rfl hl4 (fun s hs => by simp [R.compTurn, triV]) ?_
          simp
        · rw [if_neg c3]
          simp [b__law_is_bars, eq_ss, cx, c1, c2, c3, opV, hl3, smt]
          refine sum_tri (fun s => s.1 + s.2.2 * t - 1) rfl hl4 (fun s hs => by simp [R.compTurn, triV, smt]) ?_
          by_cases c4 : x = "many" <;> simp [eq_ss, cx, c4, smt]
theorem barsShows_ok {x : Str} {o : Option Int} {a : Nat} (k : PlanOk ts sp m t) (cx : Cp x) (ha : h[a]? = some (.ins 2 [("text", .str x), ("station", opV o)])) : callD P W (n + 4) n_Bars_shows [.ref a, .lst (ts.map triV), .int sp, .int m, .int t] h = .ok (.bl (barsB ts sp m t x o)) h := by
  rw [callD_eq (d := d_Bars_shows.df) rfl rfl]
  show (exs _ W b_Bars_shows ([some (.ref a), some (.lst (ts.map triV)), some (.int sp), some (.int m), some (.int t)] ++ List.replicate 4 none) h).bind endD = _
  have l1 := k.st.l1
  have l2 := k.st.l2
  have hL := lim_big
  have hl3 : ¬ lim < ts.length := by omega
  have hl4 : ts.length ≤ lim := by omega
  have t1 := k.t1
  have t2 := k.t2
  have smt : small t = true := small_of (by omega) (by omega)
  unfold barsB
  by_cases c1 : x = "room"
  · cases o with
    | none => simp [b_Bars_shows, eq_ss, cx, ha, c1, opV, isSt_n]
    | some i =>
      by_cases b1 : 0 ≤ i ∧ i ≤ (ts.length : Int) - 1
      · obtain ⟨j, rfl⟩ := Int.eq_ofNat_of_zero_le b1.1
        have hj : j < ts.length := by omega
        have e : atI (ts.map triV) (j : Int) = some (triV ts[j]) := by
          rw [atI_nat (by simpa using hj)]
          simp [hj]
        have r := k.st.r ts[j] (List.getElem_mem hj)
        have b2 : (j : Int) ≤ (ts.length : Int) - 1 := b1.2
        have kt : keepable (triV ts[j]) = true := rfl
        simp [b_Bars_shows, eq_ss, cx, ha, c1, opV, isSt_i, b2, e, noWait_ok ⟨r.2.2.2.2.1, r.2.2.2.2.2⟩, hj, kt]
      · have b2 : ¬ (0 ≤ i ∧ i < ts.length) := by omega
        simp [b_Bars_shows, eq_ss, cx, ha, c1, opV, isSt_i, b1, b2]
  · rw [if_neg c1]
    cases o with
    | some i => simp [b_Bars_shows, eq_ss, cx, ha, c1, opV]
    | none =>
      simp only
      by_cases c2 : x = "space"
      · rw [if_pos c2]; simp [b_Bars_shows, eq_ss, cx, ha, c1, c2, opV]
      · rw [if_neg c2]
        by_cases c3 : x = "few"
        · rw [if_pos c3]
          simp [b_Bars_shows, eq_ss, cx, ha, c3, opV, hl3, smt, rides_ok k.st, stays_ok k.st, sum_add]
        · rw [if_neg c3]
          simp [b_Bars_shows, eq_ss, cx, ha, c1, c2, c3, opV, hl3, smt]
          refine sum_tri (fun s => s.2.2 * t - 1) rfl hl4 (fun s hs => by simp [R.compTurn, triV, smt]) ?_
          have e : (ts.map fun s => s.1 + s.2.2 * t - 1).sum = (ts.map (·.1)).sum + (ts.map fun s => s.2.2 * t - 1).sum := by
            rw [← sum_add]
            congr 1
            apply List.map_congr_left
            intro s _
            omega
          by_cases c4 : x = "many" <;> simp [eq_ss, cx, ha, c4, smt, rides_ok k.st, e]
theorem says_ok {a b : Bool} : callD P W (n + 1) n__law_says [.bl a, .bl b] h = .ok (.bl (a == b)) h := by
  rw [callD_eq (d := d__law_says.df) rfl rfl]
  show (exs _ W b__law_says [some (.bl a), some (.bl b)] h).bind endD = _
  simp [b__law_says]
end
end L

end

section
set_option Elab.async false
set_option linter.all false
set_option maxRecDepth 10000
namespace L
open PySem L2 R
set_option maxHeartbeats 4000000
section
variable {W n : Nat} {h : AH} {ts : List St3} {sp m t : Int}
theorem triple_ok {t : St3} (k : Tri t) : callD P W (n + 3) n_is_triple [triV t] h = .ok (.bl true) h := by
  rw [callD_eq (d := d_is_triple.df) rfl rfl]
  show (exs _ W b_is_triple [some (triV t), none, none, none] h).bind endD = _
  obtain ⟨k1, k2, k3, k4, k5, k6⟩ := k
  simp [b_is_triple, triV, within_ok, k1, k2, k3, k4, k5, k6]
theorem stations_ok {v : AV} (l : LV h v (ts.map triV)) (k : StOk ts sp) : callD P W (n + 4) n_are_stations [v] h = .ok (.bl true) h := by
  rw [callD_eq (d := d_are_stations.df) rfl rfl]
  show (exs _ W b_are_stations [some v, none] h).bind endD = _
  have hL := lim_big
  have l1 := k.l1
  have l2 := k.l2
  have hlim : ¬ lim < ts.length := by omega
  have c1 : (1 : Int) ≤ (ts.length : Int) := by omega
  have c2 : (ts.length : Int) ≤ 4 := by omega
  obtain ⟨w, e1, e2, e3, e4⟩ := l.each
  simp [b_are_stations, l.pk, l.ty, l.len, e1, e2, c1, c2, hlim]
  refine comp_triL (fun _ => .bl true) rfl (fun i => e4 h i l) (fun s hs => ?_) ?_
  · have kt : keepable (triV s) = true := rfl
    have pt : peeked (triV s) = triV s := rfl
    simp [_root_.R.compTurn, triple_ok (k.r s hs), kt, pt]
  · rw [mkL_fz (by simp; omega)]
    have e : (ts.map fun _ => AV.bl true) = (ts.map fun _ => true).map .bl := by simp
    have : ((ts.map fun _ => true).all id) = true := by simp
    rw [e]
    simp only [bind_ok, all_lst, this]
    simp
theorem space_ok (k : StOk ts sp) : callD P W (n + 3) n_is_space [.int sp] h = .ok (.bl true) h := by
  rw [callD_eq (d := d_is_space.df) rfl rfl]
  show (exs _ W b_is_space [some (.int sp)] h).bind endD = _
  have s1 := k.s1
  have s2 := k.s2
  simp [b_is_space, within_ok, s1, s2]
theorem needPlan_ok {v : AV} (l : LV h v (ts.map triV)) (k : PlanOk ts sp m t) : callD P W (n + 7) n_need_plan [v, .int sp, .int m, .int t] h = .ok .non h := by
  have a1 : callD P W (n + 5) n_need_stations [v] h = .ok .non h := by
    rw [callD_eq (d := d_need_stations.df) rfl rfl]
    show (exs _ W b_need_stations [some v] h).bind endD = _
    simp [b_need_stations, stations_ok l k.st, l.pk, l.kp]
  have a2 : callD P W (n + 5) n_need_space [.int sp] h = .ok .non h := by
    rw [callD_eq (d := d_need_space.df) rfl rfl]
    show (exs _ W b_need_space [some (.int sp)] h).bind endD = _
    simp [b_need_space, space_ok k.st]
  have a3 : callD P W (n + 6) n_need_rope [v, .int sp] h = .ok .non h := by
    rw [callD_eq (d := d_need_rope.df) rfl rfl]
    show (exs _ W b_need_rope [some v, some (.int sp)] h).bind endD = _
    simp [b_need_rope, a1, a2, l.pk, l.kp]
  have m1 := k.m1
  have m2 := k.m2
  have t1 := k.t1
  have t2 : t ≤ 60 := by have := k.t2; omega
  have c1 : callD P W (n + 5) n_is_cabin_count [.int m] h = .ok (.bl true) h := by
    rw [callD_eq (d := d_is_cabin_count.df) rfl rfl]
    show (exs _ W b_is_cabin_count [some (.int m)] h).bind endD = _
    simp [b_is_cabin_count, within_ok, m1, m2]
  have c2 : callD P W (n + 5) n_is_plan_ticks [.int t] h = .ok (.bl true) h := by
    rw [callD_eq (d := d_is_plan_ticks.df) rfl rfl]
    show (exs _ W b_is_plan_ticks [some (.int t)] h).bind endD = _
    simp [b_is_plan_ticks, within_ok, t1, t2]
  have a4 : callD P W (n + 6) n_need_cabin_count [.int m] h = .ok .non h := by
    rw [callD_eq (d := d_need_cabin_count.df) rfl rfl]
    show (exs _ W b_need_cabin_count [some (.int m)] h).bind endD = _
    simp [b_need_cabin_count, c1]
  have a5 : callD P W (n + 6) n_need_plan_ticks [.int t] h = .ok .non h := by
    rw [callD_eq (d := d_need_plan_ticks.df) rfl rfl]
    show (exs _ W b_need_plan_ticks [some (.int t)] h).bind endD = _
    simp [b_need_plan_ticks, c2]
  rw [callD_eq (d := d_need_plan.df) rfl rfl]
  show (exs _ W b_need_plan [some v, some (.int sp), some (.int m), some (.int t)] h).bind endD = _
  simp [b_need_plan, a3, a4, a5, l.pk, l.kp]
end
end L

end

section
set_option Elab.async false
set_option linter.all false
set_option maxRecDepth 10000
namespace L
open PySem L2 R
set_option maxHeartbeats 4000000
section
variable {W n : Nat} {h : AH} {ts : List St3} {sp m t : Int} {v : AV}
def Giv (ts : List St3) (t r0 : Int) (v : AV) (h0 : AH) (j : Nat) (σ : AS) (h : AH) : Prop := h = h0 ∧ ∃ ws r x4 x5 x6 x7, σ = [some v, some (.int t), some (.int r), some (.own (ws.map .int)), x4, x5, x6, x7] ∧ ws.length = j ∧ fits t (ts.take j) ws = true ∧
  ws.sum + r = ((ts.take j).map (·.2.1)).sum + r0 ∧ 0 ≤ r ∧ (0 < r → ws.sum = ((ts.take j).map fun s => s.2.2 * t - 1).sum)
def Given (ts : List St3) (t r0 : Int) (h0 : AH) (a : AV) (h : AH) : Prop := h = h0 ∧ ∃ ws r, a = .tup [.lst (ws.map .int), .int r] ∧ ws.length = ts.length ∧ fits t ts ws = true ∧
  ws.sum + r = (ts.map (·.2.1)).sum + r0 ∧ 0 ≤ r ∧ (0 < r → ws.sum = (ts.map fun s => s.2.2 * t - 1).sum)
theorem wbs_ok {r0 : Int} (l : LV h v (ts.map triV)) (k : PlanOk ts sp m t) (hr : 0 ≤ r0) (room : ∀ s ∈ ts, s.2.1 < s.2.2 * t) :
    ∃ a h', callD P W (n + 1) n_waits_beyond_stays [v, .int t, .int r0] h = .ok a h' ∧ Given ts t r0 h a h' := by
  rw [callD_eq (d := d_waits_beyond_stays.df) rfl rfl]
  suffices q : ∃ a h', (exs (callD P W n) W b_waits_beyond_stays ([some v, some (.int t), some (.int r0)] ++ List.replicate 5 none) h).bind endD = .ok a h' ∧ Given ts t r0 h a h' from q
  have hL := lim_big
  have l1 := k.st.l1
  have l2 := k.st.l2
  have hl3 : ¬ lim < ts.length := by omega
  obtain ⟨w, e1, e2, e3, e4⟩ := l.each
  simp [b_waits_beyond_stays, l.pk, l.kp, e1, e2, e3, hl3]
  refine for_exW (items := ts.map triV) (fun j σ h' => Giv ts t r0 v h j σ h') (by simp) ⟨rfl, [], r0, _, _, _, _, rfl, rfl, rfl, by simp, hr, fun _ => by simp⟩ ?_ ?_ ?_
  · rintro i σ h' ⟨rfl, _⟩
    exact e4 _ i l
  · rintro i x σ h' hx ⟨rfl, ws, r, x4, x5, x6, x7, rfl, hw, hf, hs, h0, hp⟩
    rw [List.getElem?_map] at hx
    cases et : ts[i]? with
    | none => rw [et] at hx; simp at hx
    | some s =>
      rw [et] at hx
      simp at hx
      subst hx
      have hi := (List.getElem?_eq_some_iff.mp et).1
      have hm := List.mem_of_getElem? et
      have := room s hm
      have rr := k.st.r s hm
      have sm : small s.2.2 = true := small_of (by omega) (by omega)
      have tk : ts.take (i + 1) = ts.take i ++ [s] := by rw [List.take_succ, et]; rfl
      have hil : ws.length < lim := by omega
      obtain ⟨M, hM⟩ : ∃ M : Int, M = if s.2.2 * t - 1 - s.2.1 < r then s.2.2 * t - 1 - s.2.1 else r := ⟨_, rfl⟩
      have M0 : 0 ≤ M ∧ M ≤ r ∧ M ≤ s.2.2 * t - 1 - s.2.1 ∧ (M < r → M = s.2.2 * t - 1 - s.2.1) := by
        subst hM
        split <;> omega
      refine ⟨_, h', ?_, rfl, ws ++ [s.2.1 + M], r - M, some (.int s.1), some (.int s.2.1), some (.int s.2.2), some (.int M), rfl, by simp [hw], ?_, ?_, by omega, ?_⟩
      · simp [R.forTurn, triV, sm, ← hM, hil]
      · rw [tk]
        unfold fits at hf ⊢
        rw [List.zipWith_append (by simp; omega)]
        simp only [List.all_append, hf]
        simp [fitB]
        omega
      · rw [tk]
        simp only [List.map_append, List.map_cons, List.map_nil, List.sum_append, List.sum_cons, List.sum_nil]
        omega
      · intro q
        have := hp (by omega)
        rw [tk]
        simp only [List.map_append, List.map_cons, List.map_nil, List.sum_append, List.sum_cons, List.sum_nil]
        omega
  · rintro σ h' ⟨rfl, ws, r, x4, x5, x6, x7, rfl, hw, hf, hs, h0, hp⟩
    rw [List.take_length] at hf hs hp
    simp
    exact ⟨_, _, ⟨rfl, rfl⟩, rfl, ws, r, rfl, hw, hf, hs, h0, hp⟩
def Tx (x : Str) : Prop := x = "room" ∨ x = "space" ∨ x = "few" ∨ x = "many"
theorem Tx.cp {x : Str} (q : Tx x) : Cp x := by
  rcases q with rfl | rfl | rfl | rfl
  · exact cp1
  · exact cp2
  · exact cp3
  · exact cp4
def Pland (ts : List St3) (sp m t : Int) (h0 : AH) (a : AV) (h : AH) : Prop := (∃ ws, a = .ref h0.length ∧ h = h0 ++ [.ins 1 [("waits", .ref (h0.length + 1))], .lst (ws.map .int)] ∧ ws.length = ts.length ∧ keepsB ts sp m t ws = true) ∨
  ∃ x o, a = .ref h0.length ∧ h = h0 ++ [.ins 2 [("text", .str x), ("station", opV o)]] ∧ Tx x ∧ barsB ts sp m t x o = true
theorem planned_ok (l : LV h v (ts.map triV)) (k : PlanOk ts sp m t) : ∃ a h', callD P W (n + 8) n_planned [v, .int sp, .int m, .int t] h = .ok a h' ∧ Pland ts sp m t h a h' := by
  rw [callD_eq (d := d_planned.df) rfl rfl]
  suffices q : ∃ a h', (exs (callD P W (n + 7)) W b_planned ([some v, some (.int sp), some (.int m), some (.int t)] ++ List.replicate 4 none) h).bind endD = .ok a h' ∧ Pland ts sp m t h a h' from q
  have hL := lim_big
  have l1 := k.st.l1
  have l2 := k.st.l2
  have hl3 : ¬ lim < ts.length := by omega
  have np := needPlan_ok (W := W) (n := n) l k
  have t1 := k.t1
  have t2 := k.t2
  have smt : small t = true := small_of (by omega) (by omega)
  have bI := fun (x : Str) (o : Option Int) => barsI (W := W) (n := n + 5) (h := h) (x := x) (o := o)
  by_cases c1 : t < sp
  · have b := bI "space" none
    simp only [opV] at b
    simp [b_planned, l.pk, l.kp, np, c1, b]
    exact ⟨_, _, ⟨rfl, rfl⟩, .inr ⟨"space", none, rfl, by simp [opV], .inr (.inl rfl), by simp [barsB, c1]⟩⟩
  · obtain ⟨w, e1, e2, e3, e4⟩ := l.enum
    simp [b_planned, l.pk, l.kp, np, c1, e1, e2, e3, hl3]
    refine for_exRW (items := enumL (ts.map triV)) (fun j σ h' => h' = h ∧ (∃ x5 x6, σ = [some v, some (.int sp), some (.int m), some (.int t), none, x5, x6, none]) ∧ ∀ s ∈ ts.take j, s.2.1 < s.2.2 * t)
      (fun j a h' => Pland ts sp m t h a h') (by rw [enumL_len]; simp) ⟨rfl, ⟨_, _, rfl⟩, by simp⟩ ?_ ?_ ?_ ?_
    · rintro i σ h' ⟨rfl, _⟩
      exact e4 _ i l
    · rintro i x σ h' hx ⟨rfl, ⟨x5, x6, rfl⟩, al⟩
      rw [enumL_get, List.getElem?_map] at hx
      cases et : ts[i]? with
      | none => rw [et] at hx; simp at hx
      | some s =>
        rw [et] at hx
        simp at hx
        subst hx
        have hi := (List.getElem?_eq_some_iff.mp et).1
        have hm := List.mem_of_getElem? et
        have rr := k.st.r s hm
        have nw := noWait_ok (W := W) (n := n + 6) (h := h') (t := t) (s := s) ⟨by omega, by omega⟩
        have kt : keepable (triV s) = true := rfl
        have pt : peeked (triV s) = triV s := rfl
        by_cases c : s.2.2 * t ≤ s.2.1
        · right
          have b := bI "room" (some (i : Int))
          simp only [opV] at b
          refine ⟨.ref h'.length, h' ++ [.ins 2 [("text", .str "room"), ("station", .int i)]], by simp [R.forTurn, nw, kt, pt, c, b], .inr ⟨"room", some (i : Int), rfl, rfl, .inl rfl, ?_⟩⟩
          have eg : ts[i] = s := (List.getElem?_eq_some_iff.mp et).2
          simp [barsB, hi, eg, c]
        · left
          refine ⟨_, _, by simp [R.forTurn, nw, kt, pt, c], rfl, ⟨some (.int i), some (triV s), rfl⟩, ?_⟩
          intro s' hs'
          rw [List.take_succ, et] at hs'
          rcases List.mem_append.mp hs' with q | q
          · exact al s' q
          · simp at q
            subst q
            omega
    · rintro σ h' ⟨rfl, ⟨x5, x6, rfl⟩, al⟩
      rw [List.take_length] at al
      obtain ⟨r, hr⟩ : ∃ r : Int, r = m * t - (ts.map (·.1)).sum - (ts.map (·.2.1)).sum := ⟨_, rfl⟩
      by_cases c : r < 0
      · have b := bI "few" none
        simp only [opV] at b
        simp [l.pk, l.kp, rides_okL l l2, stays_okL l l2, smt, ← hr, c, b]
        refine ⟨_, _, ⟨rfl, rfl⟩, .inr ⟨"few", none, rfl, by simp [opV], .inr (.inr (.inl rfl)), ?_⟩⟩
        simp [barsB, sum_add]
        have ee : (ts.map Prod.fst).sum = (ts.map (·.1)).sum := rfl
        have c := c
        rw [hr] at c
        omega
      · obtain ⟨a, h2, wb, rfl, ws, r', rfl, hw, hf, hs, h0, hp⟩ := wbs_ok (W := W) (n := n + 6) (r0 := r) l k (by omega) al
        by_cases c2 : r' = 0
        · have kI := keepsI (W := W) (n := n + 5) (h := h2) (v := .lst (ws.map .int)) (ws := ws) (.inl rfl) (by omega)
          simp [l.pk, l.kp, rides_okL l l2, stays_okL l l2, smt, ← hr, c, wb, c2, kI]
          refine ⟨_, _, ⟨rfl, rfl⟩, .inl ⟨ws, rfl, rfl, hw, ?_⟩⟩
          simp [keepsB, hf, hw]
          omega
        · have b := bI "many" none
          simp only [opV] at b
          simp [l.pk, l.kp, rides_okL l l2, stays_okL l l2, smt, ← hr, c, wb, c2, b]
          refine ⟨_, _, ⟨rfl, rfl⟩, .inr ⟨"many", none, rfl, by simp [opV], .inr (.inr (.inr rfl)), ?_⟩⟩
          have e : (ts.map fun s => s.1 + s.2.2 * t - 1).sum = (ts.map (·.1)).sum + (ts.map fun s => s.2.2 * t - 1).sum := by
            rw [← sum_add]
            congr 1
            apply List.map_congr_left
            intro s _
            omega
          have := hp (by omega)
          simp [barsB, e]
          omega
    · rintro i w h' hi q
      exact ⟨_, _, rfl, q⟩
end
end L

end

section
set_option Elab.async false
set_option linter.all false
set_option maxRecDepth 10000
namespace L
open PySem L2 R
set_option maxHeartbeats 4000000
section
variable {W n : Nat} {h : AH} {ts : List St3} {sp m t : Int} {v w : AV} {ws : List Int}
def IsT (a : AV) (h : AH) : Prop := a = .bl true
def triD (s : St3) : PyData := .tuple [.int s.1, .int s.2.1, .int s.2.2]
theorem mapM_tris {k : Nat} {h : AH} : ∀ ts : List St3, (ts.map triV).mapM (toD (k + 2) h) = some (ts.map triD)
  | [] => rfl
  | s :: ts => by
    rw [List.map_cons, List.mapM_cons, mapM_tris ts]
    rfl
theorem toD_tris (q : LV h v (ts.map triV)) : toD 8 h v = some (.list (ts.map triD)) := by
  have e := q.rdL
  rcases q with rfl | ⟨n, rfl, q⟩
  · show (match rdL h (.lst (ts.map triV)) with
      | some xs => (xs.mapM (toD 7 h)).map PyData.list
      | none => none) = _
    rw [e]
    simp only [mapM_tris, Option.map_some]
  · show (match rdL h (.ref n) with
      | some xs => (xs.mapM (toD 7 h)).map PyData.list
      | none => none) = _
    rw [e]
    simp only [mapM_tris, Option.map_some]
theorem can_tris : ∀ ts : List St3, PyData.canLayAll0 (ts.map triD) = true
  | [] => rfl
  | s :: ts => by
    rw [List.map_cons]
    simp only [PyData.canLayAll0, can_tris ts]
    rfl
theorem ne_tris (p : LV h v (ts.map triV)) (q : LV h w (ts.map triV)) : cmp2v .ne v w h = some false := by
  unfold cmp2v
  simp only [toD_tris p, toD_tris q]
  show some (!PyData.eqv (.list (ts.map triD)) (.list (ts.map triD))) = _
  rw [SeqAt.eqv_refl _ (show PyData.canLay0 (.list (ts.map triD)) = true from can_tris ts)]
  rfl
def canB (ts : List St3) (sp m t : Int) : Bool := !decide (t < sp) && !(ts.any fun s => decide (s.2.2 * t ≤ s.2.1)) && (decide ((ts.map fun s => s.1 + s.2.1).sum ≤ m * t) && decide (m * t ≤ (ts.map fun s => s.1 + s.2.2 * t - 1).sum))
theorem can_ok (k : PlanOk ts sp m t) : callD P W (n + 1) n__law_can [.lst (ts.map triV), .int sp, .int m, .int t] h = .ok (.bl (canB ts sp m t)) h := by
  rw [callD_eq (d := d__law_can.df) rfl rfl]
  show (exs _ W b__law_can ([some (.lst (ts.map triV)), some (.int sp), some (.int m), some (.int t)] ++ List.replicate 2 none) h).bind endD = _
  have l1 := k.st.l1
  have l2 := k.st.l2
  have hL := lim_big
  have hl3 : ¬ lim < ts.length := by omega
  have hl4 : ts.length ≤ lim := by omega
  have t1 := k.t1
  have t2 := k.t2
  have smt : small t = true := small_of (by omega) (by omega)
  by_cases c1 : t < sp
  · simp [b__law_can, c1, canB]
  · simp [b__law_can, c1, hl3]
    refine comp_tri (fun s => .bl (decide (s.2.2 * t ≤ s.2.1))) rfl (fun s hs => by simp [R.compTurn, triV, smt]) ?_
    rw [mkL_fz (by simp; omega)]
    have e : (ts.map fun s => AV.bl (decide (s.2.2 * t ≤ s.2.1))) = (ts.map fun s => decide (s.2.2 * t ≤ s.2.1)).map .bl := by simp
    have e2 : (ts.map fun s => decide (s.2.2 * t ≤ s.2.1)).any id = ts.any fun s => decide (s.2.2 * t ≤ s.2.1) := by
      rw [List.any_map]; rfl
    rw [e]
    simp only [bind_ok, any_lst, e2]
    cases c2 : ts.any fun s => decide (s.2.2 * t ≤ s.2.1) with
    | true => simp [canB, c2]
    | false =>
      simp [hl3]
      refine sum_tri (fun s => s.1 + s.2.1) rfl hl4 (fun s hs => by simp [R.compTurn, triV]) ?_
      by_cases c3 : (ts.map fun s => s.1 + s.2.1).sum ≤ m * t
      · simp [smt, c3, hl3]
        refine sum_tri (fun s => s.1 + s.2.2 * t - 1) rfl hl4 (fun s hs => by simp [R.compTurn, triV, smt]) ?_
        simp [canB, c1, c2, c3]
      · simp [smt, c3, canB]
theorem fits_sums : ∀ (ts : List St3) (ws : List Int), ws.length = ts.length → fits t ts ws = true → (ts.map (·.2.1)).sum ≤ ws.sum ∧ ws.sum ≤ (ts.map fun s => s.2.2 * t - 1).sum ∧ (ts.any fun s => decide (s.2.2 * t ≤ s.2.1)) = false
  | [], [], _, _ => by simp
  | [], _ :: _, e, _ => by simp at e
  | _ :: _, [], e, _ => by simp at e
  | s :: ts, w :: ws, e, f => by
    have f' : fitB t s w = true ∧ fits t ts ws = true := by
      unfold fits at f ⊢
      simpa using f
    obtain ⟨a, b, c⟩ := fits_sums ts ws (by simpa using e) f'.2
    have g : s.2.1 ≤ w ∧ w < s.2.2 * t := by simpa [fitB] using f'.1
    simp only [List.map_cons, List.sum_cons, List.any_cons, c]
    refine ⟨by omega, by omega, ?_⟩
    simp
    omega
theorem sum_most : (ts.map fun s : St3 => s.1 + s.2.2 * t - 1).sum = (ts.map (·.1)).sum + (ts.map fun s => s.2.2 * t - 1).sum := by
  rw [← sum_add]
  congr 1
  apply List.map_congr_left
  intro s _
  omega
theorem keeps_can (q : keepsB ts sp m t ws = true) : canB ts sp m t = true := by
  simp [keepsB] at q
  obtain ⟨⟨⟨hl, hs⟩, hf⟩, he⟩ := q
  obtain ⟨a, b, c⟩ := fits_sums ts ws hl hf
  have ee : (ts.map Prod.fst).sum = (ts.map (·.1)).sum := rfl
  unfold canB
  rw [c, sum_add, sum_most]
  simp
  omega
theorem bars_can {x : Str} {o : Option Int} (hx : Tx x) (q : barsB ts sp m t x o = true) : canB ts sp m t = false := by
  unfold barsB at q
  unfold canB
  rcases hx with rfl | rfl | rfl | rfl
  · cases o with
    | none => simp at q
    | some i =>
      simp at q
      obtain ⟨⟨h1, h2⟩, h3⟩ := q
      obtain ⟨j, rfl⟩ := Int.eq_ofNat_of_zero_le h1
      have hj : j < ts.length := by omega
      have : (ts.any fun s => decide (s.2.2 * t ≤ s.2.1)) = true := by
        rw [List.any_eq_true]
        exact ⟨ts[j], List.getElem_mem hj, by simpa [hj] using h3⟩
      rw [this]
      simp
  · cases o with
    | some i => simp at q
    | none =>
      simp at q
      simp [q]
  · cases o with
    | some i => simp at q
    | none =>
      simp at q
      have : ¬ (ts.map fun s => s.1 + s.2.1).sum ≤ m * t := by omega
      simp [this]
  · cases o with
    | some i => simp at q
    | none =>
      simp at q
      have : ¬ m * t ≤ (ts.map fun s => s.1 + s.2.2 * t - 1).sum := by omega
      simp [this]
@[simp] theorem isT10 : isT "int" .tuple = false := by decide
@[simp] theorem isT11 : isT "str" .tuple = false := by decide
@[simp] theorem isT12 : isT "NoneType" .tuple = false := by decide
@[simp] theorem isT13 : isT "str" .bool = false := by decide
@[simp] theorem isT14 : isT "str" .int = false := by decide
@[simp] theorem isT15 : isT "str" .str = true := by decide
theorem plain_i {i : Int} : callD P W (n + 1) n__law_plain [.int i] h = .ok (.bl true) h := by
  rw [callD_eq (d := d__law_plain.df) rfl rfl]
  show (exs _ W b__law_plain ([some (.int i)] ++ List.replicate 1 none) h).bind endD = _
  simp [b__law_plain]
theorem plain_s {x : Str} : callD P W (n + 1) n__law_plain [.str x] h = .ok (.bl true) h := by
  rw [callD_eq (d := d__law_plain.df) rfl rfl]
  show (exs _ W b__law_plain ([some (.str x)] ++ List.replicate 1 none) h).bind endD = _
  simp [b__law_plain]
theorem plain_n : callD P W (n + 1) n__law_plain [.non] h = .ok (.bl true) h := by
  rw [callD_eq (d := d__law_plain.df) rfl rfl]
  show (exs _ W b__law_plain ([some .non] ++ List.replicate 1 none) h).bind endD = _
  simp [b__law_plain]
theorem plain_l (l : LV h v (ws.map .int)) (hw : ws.length ≤ 1000) : callD P W (n + 2) n__law_plain [v] h = .ok (.bl true) h := by
  rw [callD_eq (d := d__law_plain.df) rfl rfl]
  show (exs _ W b__law_plain ([some v] ++ List.replicate 1 none) h).bind endD = _
  have hL := lim_big
  have hl3 : ¬ lim < ws.length := by omega
  obtain ⟨w, e1, e2, e3, e4⟩ := l.each
  simp [b__law_plain, l.pk, l.ty, e1, e2, hl3]
  refine comp_mapW (items := ws.map .int) ((ws.map fun _ => true).map .bl) (by simp) (by simp) (fun i => e4 h i l) ?_ ?_
  · intro i x y hx hy
    simp only [List.getElem?_map] at hx hy
    cases ht : ws[i]? with
    | none => simp [ht] at hx
    | some w =>
      simp [ht] at hx hy
      subst hx; subst hy
      simp [R.compTurn, plain_i]
  · rw [mkL_fz (by simp; omega)]
    have : ((ws.map fun _ => true).all id) = true := by simp
    simp only [bind_ok, all_lst, this]
    simp
theorem plain_b {x : Str} {o : Option Int} : callD P W (n + 2) n__law_plain [.lst [.str x, opV o]] h = .ok (.bl true) h := by
  rw [callD_eq (d := d__law_plain.df) rfl rfl]
  show (exs _ W b__law_plain ([some (.lst [.str x, opV o])] ++ List.replicate 1 none) h).bind endD = _
  have hL := lim_big
  have hl3 : ¬ lim < 2 := by omega
  simp [b__law_plain, hl3]
  refine comp_map ([true, true].map .bl) (by simp) (by simp) ?_ ?_
  · intro i a y hx hy
    match i with
    | 0 =>
      simp at hx hy
      subst hx; subst hy
      simp [R.compTurn, plain_s]
    | 1 =>
      simp at hx hy
      subst hx; subst hy
      cases o with
      | none => simp [R.compTurn, plain_n, opV]
      | some j => simp [R.compTurn, plain_i, opV]
    | i + 2 => simp at hx
  · rw [mkL_fz (by simp)]
    simp only [bind_ok, all_lst]
    simp
theorem iscI {o c : Nat} {fs : List (Str × AV)} {yes no : List Nat} (ho : h[o]? = some (.ins c fs)) : iscV h (.ref o) yes no = if yes.contains c then some true else if no.contains c then some false else none := by
  have e : tyA h (.ref o) = none := by
    simp only [tyA, ho]
  simp only [iscV, e, ho]
abbrev Pl := List St3 × Int × Int × Int
def PlOk (p : Pl) : Prop := PlanOk p.1 p.2.1 p.2.2.1 p.2.2.2
def plV (p : Pl) : AV := .tup [.lst (p.1.map triV), .int p.2.1, .int p.2.2.1, .int p.2.2.2]
def kB (p : Pl) (ws : List Int) : Bool := keepsB p.1 p.2.1 p.2.2.1 p.2.2.2 ws
def bB (p : Pl) (x : Str) (o : Option Int) : Bool := barsB p.1 p.2.1 p.2.2.1 p.2.2.2 x o
theorem dueK {p : Pl} {o q : Nat} (k : PlOk p) (hw : ws.length ≤ 1000) (ho : h[o]? = some (.ins 1 [("waits", .ref q)])) (hq : h[q]? = some (.lst (ws.map .int))) :
    callD P W (n + 2) n__law_due [plV p, .ref o] h = .ok (.bl (kB p ws)) h := by
  rw [callD_eq (d := d__law_due.df) rfl rfl]
  show (exs _ W b__law_due ([some (plV p), some (.ref o)] ++ List.replicate 4 none) h).bind endD = _
  have l : LV h (.ref q) (ws.map .int) := .inr ⟨q, rfl, hq⟩
  have ik := isKeeps_okL (W := W) (n := n) l k hw
  simp [b__law_due, plV, iscI ho, ho, ik, kB]
theorem dueB {p : Pl} {o : Nat} {x : Str} {j : Option Int} (k : PlOk p) (hx : Tx x) (ho : h[o]? = some (.ins 2 [("text", .str x), ("station", opV j)])) :
    callD P W (n + 2) n__law_due [plV p, .ref o] h = .ok (.bl (bB p x j)) h := by
  rw [callD_eq (d := d__law_due.df) rfl rfl]
  show (exs _ W b__law_due ([some (plV p), some (.ref o)] ++ List.replicate 4 none) h).bind endD = _
  have ib := isBars_ok (W := W) (n := n) (h := h) (o := j) k hx.cp
  have ko : keepable (opV j) = true := by cases j <;> rfl
  have po : peeked (opV j) = opV j := by cases j <;> rfl
  simp [b__law_due, plV, iscI ho, ho, ib, bB, ko, po]
end
end L

end

section
set_option Elab.async false
set_option linter.all false
set_option maxRecDepth 10000
namespace L
open PySem L2 R
set_option maxHeartbeats 4000000
section
variable {W n : Nat} {h : AH} {ts : List St3} {sp m t : Int} {v w : AV} {ws : List Int}
@[simp] theorem atI_3 {α : Type} {x y z u : α} {xs : List α} : atI (x :: y :: z :: u :: xs) 3 = some u := by
  have := atI_nat (xs := x :: y :: z :: u :: xs) (i := 3) (by simp)
  simpa using this
def Rt (ts : List St3) (sp m t : Int) (os : List Pl) (g : Bool) (σ : AS) (h : AH) : Prop := ∃ x2 x9 x10 x11, σ = [some (.tup [.lst (ts.map triV), .int sp, .int m, .int t]), some (.lst (os.map plV)), x2, some (.lst (ts.map triV)), some (.int sp), some (.int m), some (.int t), some (.lst (ts.map triV)), some (.bl g), x9, x10, x11]
theorem keeps_bump {w0 : Int} (q : keepsB ts sp m t (w0 :: ws) = true) : keepsB ts sp m t ((w0 + 1) :: ws) = false := by
  have he : (w0 :: ws).sum + (ts.map (·.1)).sum = m * t := by
    unfold keepsB at q
    simp only [Bool.and_eq_true, decide_eq_true_eq] at q
    exact q.2
  have : ¬ ((w0 + 1) :: ws).sum + (ts.map (·.1)).sum = m * t := by
    rw [List.sum_cons] at he ⊢
    omega
  unfold keepsB
  rw [decide_eq_false this, Bool.and_false]
theorem right_ok {os : List Pl} (k : PlanOk ts sp m t) (ko : ∀ q ∈ os, PlOk q) (lo : os.length ≤ 100) :
    ∃ a h', callD P W (n + 9) n__law_right [.tup [.lst (ts.map triV), .int sp, .int m, .int t], .lst (os.map plV)] h = .ok a h' ∧ IsT a h' := by
  rw [callD_eq (d := d__law_right.df) rfl rfl]
  suffices q : ∃ a h', (exs (callD P W (n + 8)) W b__law_right ([some (.tup [.lst (ts.map triV), .int sp, .int m, .int t]), some (.lst (os.map plV))] ++ List.replicate 10 none) h).bind endD = .ok a h' ∧ IsT a h' from q
  have hL := lim_big
  have l1 := k.st.l1
  have l2 := k.st.l2
  have hl3 : ¬ lim < ts.length := by omega
  have hl2 : ¬ lim < 2 := by omega
  have hlo : ¬ lim < os.length := by omega
  have cn := can_ok (W := W) (n := n + 7) (h := h) k
  have ls : ∀ (xs : List AV) h, xs.length ≤ 100 → mkL .fz xs h = .ok (.lst xs) h := fun xs h hx => mkL_fz (by omega)
  have lst : ∀ h, bltv .list .fz [.lst (ts.map triV)] h = .ok (.lst (ts.map triV)) h := fun h => by
    rw [(show LV h (.lst (ts.map triV)) (ts.map triV) from .inl rfl).list, ls _ _ (by simp; omega)]
  have rk : rgOk 2 = true := by decide
  simp [b__law_right, lst, cn, rk, hl2]
  refine for_ex (fun j σ h' => Rt ts sp m t os (canB ts sp m t) σ h') (by simp) ⟨_, _, _, _, rfl⟩ ?_ ?_
  · rintro j v σ h' hv ⟨x2, x9, x10, x11, rfl⟩
    obtain ⟨hi, rfl⟩ := rngL_get hv
    obtain ⟨a, H, ep, q⟩ := planned_ok (W := W) (n := n) (h := h') (v := .lst (ts.map triV)) (.inl rfl) k
    have nt : ∀ h, cmp2v .ne (.lst (ts.map triV)) (.lst (ts.map triV)) h = some false := fun h => ne_tris (.inl rfl) (.inl rfl)
    have lk5 : List.lookup 1 [((1 : Nat), (16 : Nat)), (2, 18)] = some 16 := rfl
    have lk6 : List.lookup 2 [((1 : Nat), (16 : Nat)), (2, 18)] = some 18 := rfl
    apply nx_ex
    rcases q with ⟨ws, rfl, rfl, hw, hk⟩ | ⟨x, o, rfl, rfl, hx, hb⟩
    · rw [keeps_can hk]
      have ho : (h' ++ [AO.ins 1 [(Str.ofString "waits", AV.ref (h'.length + 1))], .lst (ws.map .int)])[h'.length]? = some (.ins 1 [("waits", .ref (h'.length + 1))]) := by simp
      have hq : (h' ++ [AO.ins 1 [(Str.ofString "waits", AV.ref (h'.length + 1))], .lst (ws.map .int)])[h'.length + 1]? = some (.lst (ws.map .int)) := by
        rw [List.getElem?_append_right (by omega)]
        simp
      have hoq : h'.length ≠ h'.length + 1 := by omega
      generalize h' ++ [AO.ins 1 [(Str.ofString "waits", AV.ref (h'.length + 1))], .lst (ws.map .int)] = H at ep ho hq
      generalize h'.length + 1 = q at ho hq hoq
      generalize h'.length = o at ep ho hoq
      have n1 : ∀ h, cmp2v .ne (.lst [.bl true, .bl false, .bl false, .bl false]) (.lst [.bl true, .bl false, .bl false, .bl false]) h = some false := fun _ => rfl
      have du := dueK (W := W) (n := n + 6) (h := H) (p := (ts, sp, m, t)) k (by omega) ho hq
      have ek : kB (ts, sp, m, t) ws = true := hk
      rw [ek] at du
      simp only [plV] at du
      have sh := shows_ok (W := W) (n := n + 5) (h := H) k (by omega) ho hq
      rw [hk] at sh
      have pl := plain_l (W := W) (n := n + 6) (h := H) (v := .ref q) (ws := ws) (.inr ⟨q, rfl, hq⟩) (by omega)
      have sy := fun a b => says_ok (W := W) (n := n + 7) (h := H) (a := a) (b := b)
      simp [R.forTurn, ep, iscI ho, ho, ls, n1, nt, du, sh, pl, sy, lk5, hlo]
      refine for_ex (fun j σ h' => h' = H ∧ ∃ x2 x10 x11, σ = [some (.tup [.lst (ts.map triV), .int sp, .int m, .int t]), some (.lst (os.map plV)), x2, some (.lst (ts.map triV)), some (.int sp), some (.int m), some (.int t), some (.lst (ts.map triV)), some (.bl true), some (.ref o), x10, x11]) (by simp) ⟨rfl, _, _, _, rfl⟩ ?_ ?_
      · rintro i v σ h'' hv ⟨rfl, x2, x10, x11, rfl⟩
        rw [List.getElem?_map] at hv
        cases eo : os[i]? with
        | none => rw [eo] at hv; simp at hv
        | some p =>
          rw [eo] at hv
          simp at hv
          subst hv
          have kp := ko p (List.mem_of_getElem? eo)
          have du := dueK (W := W) (n := n + 6) (h := h'') (p := p) kp (by omega) ho hq
          have sh : callD P W (n + 5 + 3) n_Keeps_shows [.ref o, .lst (p.1.map triV), .int p.2.1, .int p.2.2.1, .int p.2.2.2] h'' = .ok (.bl (kB p ws)) h'' := shows_ok (W := W) (n := n + 5) (h := h'') kp (by omega) ho hq
          simp only [plV] at du
          refine ⟨_, _, ?_, rfl, x2, x10, some (plV p), rfl⟩
          simp [R.forTurn, plV, ho, du, sh, sy, lk5]
      · rintro σ h'' ⟨rfl, x2, x10, x11, rfl⟩
        match ws, hw with
        | [], hw => simp at hw; omega
        | w0 :: ws, hw =>
          have pi := fun σ => putH_i (h := h'') (n := q) (xs := (w0 :: ws).map .int) (i := 0) (j := 0) (v := .int (w0 + 1)) (σ := σ) hq (ixN_nat (i := 0) (by simp)) rfl
          have lq : LV h'' (.ref q) ((w0 :: ws).map .int) := .inr ⟨q, rfl, hq⟩
          have f1 : (h''.set q (.lst (((w0 :: ws).map AV.int).set 0 (.int (w0 + 1)))))[o]? = some (.ins 1 [("waits", .ref q)]) := by
            rw [List.getElem?_set_ne (by omega)]
            exact ho
          have f2 : (h''.set q (.lst (((w0 :: ws).map AV.int).set 0 (.int (w0 + 1)))))[q]? = some (.lst (((w0 + 1) :: ws).map .int)) := by
            rw [List.getElem?_set_self (List.getElem?_eq_some_iff.mp hq).1]
            rfl
          generalize h''.set q (.lst (((w0 :: ws).map AV.int).set 0 (.int (w0 + 1)))) = H2 at pi f1 f2
          have sh := shows_ok (W := W) (n := n + 5) (h := H2) (ws := (w0 + 1) :: ws) k (by simp at hw ⊢; omega) f1 f2
          rw [keeps_bump hk] at sh
          simp [ho, lq.idx, pi, f1, sh, lk5]
          exact ⟨_, _, ⟨rfl, rfl⟩, _, rfl, _, _, _, _, rfl⟩
    · rw [bars_can hx hb]
      have ho : (h' ++ [AO.ins 2 [(Str.ofString "text", .str x), (Str.ofString "station", opV o)]])[h'.length]? = some (.ins 2 [("text", .str x), ("station", opV o)]) := by simp
      generalize h' ++ [AO.ins 2 [(Str.ofString "text", .str x), (Str.ofString "station", opV o)]] = H at ep ho
      generalize h'.length = a at ep ho
      have n1 : ∀ h, cmp2v .ne (.lst [.bl false, .bl true, .bl false, .bl false]) (.lst [.bl false, .bl true, .bl false, .bl false]) h = some false := fun _ => rfl
      have du := dueB (W := W) (n := n + 6) (h := H) (p := (ts, sp, m, t)) k hx ho
      have ek : bB (ts, sp, m, t) x o = true := hb
      rw [ek] at du
      simp only [plV] at du
      have sh := barsShows_ok (W := W) (n := n + 4) (h := H) k hx.cp ho
      rw [hb] at sh
      have pl := plain_b (W := W) (n := n + 6) (h := H) (x := x) (o := o)
      have sy := fun a b => says_ok (W := W) (n := n + 7) (h := H) (a := a) (b := b)
      have kpo : keepable (opV o) = true := by cases o <;> rfl
      have pko : peeked (opV o) = opV o := by cases o <;> rfl
      simp [R.forTurn, ep, iscI ho, ho, ls, n1, nt, du, sh, pl, sy, lk6, hlo, kpo, pko]
      refine for_ex (fun j σ h' => h' = H ∧ ∃ x2 x10 x11, σ = [some (.tup [.lst (ts.map triV), .int sp, .int m, .int t]), some (.lst (os.map plV)), x2, some (.lst (ts.map triV)), some (.int sp), some (.int m), some (.int t), some (.lst (ts.map triV)), some (.bl false), some (.ref a), x10, x11]) (by simp) ⟨rfl, _, _, _, rfl⟩ ?_ ?_
      · rintro i v σ h'' hv ⟨rfl, x2, x10, x11, rfl⟩
        rw [List.getElem?_map] at hv
        cases eo : os[i]? with
        | none => rw [eo] at hv; simp at hv
        | some p =>
          rw [eo] at hv
          simp at hv
          subst hv
          have kp := ko p (List.mem_of_getElem? eo)
          have du := dueB (W := W) (n := n + 6) (h := h'') (p := p) kp hx ho
          have sh : callD P W (n + 4 + 4) n_Bars_shows [.ref a, .lst (p.1.map triV), .int p.2.1, .int p.2.2.1, .int p.2.2.2] h'' = .ok (.bl (bB p x o)) h'' := barsShows_ok (W := W) (n := n + 4) (h := h'') kp hx.cp ho
          simp only [plV] at du
          refine ⟨_, _, ?_, rfl, x2, x10, some (plV p), rfl⟩
          simp [R.forTurn, plV, ho, du, sh, sy, lk6]
      · rintro σ h'' ⟨rfl, x2, x10, x11, rfl⟩
        simp
        exact ⟨_, _, ⟨rfl, rfl⟩, _, rfl, _, _, _, _, rfl⟩
  · rintro σ h' ⟨x2, x9, x10, x11, rfl⟩
    simp
    exact ⟨_, _, ⟨rfl, rfl⟩, rfl⟩
end
end L

end

section
set_option Elab.async false
set_option linter.all false
set_option maxRecDepth 10000
namespace L
open PySem L2 R
set_option maxHeartbeats 4000000
def two : List St3 := [(10, 2, 1), (5, 3, 2)]
def too : List St3 := [(10, 6, 1), (5, 3, 2)]
def one : List St3 := [(10, 2, 9)]
def wee : List St3 := [(1, 0, 1)]
theorem two_ok : PlanOk two 3 4 6 := ⟨⟨by decide, by decide, by decide, by decide, by decide⟩, by decide, by decide, by decide, by decide⟩
theorem too_ok : PlanOk too 3 4 6 := ⟨⟨by decide, by decide, by decide, by decide, by decide⟩, by decide, by decide, by decide, by decide⟩
theorem one_ok {s t : Int} (h1 : 1 ≤ s) (h2 : s ≤ 9) (h3 : 1 ≤ t) (h4 : t ≤ 60) : PlanOk one s 3 t := ⟨⟨by decide, by decide, by decide, h1, h2⟩, by decide, by decide, h3, h4⟩
theorem wee_ok {m t : Int} (h1 : 1 ≤ m) (h2 : m ≤ 36) (h3 : 1 ≤ t) (h4 : t ≤ 60) : PlanOk wee 1 m t := ⟨⟨by decide, by decide, by decide, by decide, by decide⟩, h1, h2, h3, h4⟩
section
variable {W n : Nat} {h : AH} {ts : List St3} {sp m t : Int} {v w : AV} {ws : List Int}
theorem keepsOf {a : AV} {h0 h : AH} (p : Pland ts sp m t h0 a h) (c : canB ts sp m t = true) : ∃ ws, a = .ref h0.length ∧ h = h0 ++ [.ins 1 [("waits", .ref (h0.length + 1))], .lst (ws.map .int)] ∧ ws.length = ts.length ∧ keepsB ts sp m t ws = true := by
  rcases p with p | ⟨x, o, _, _, hx, hb⟩
  · exact p
  · rw [bars_can hx hb] at c; cases c
theorem barsOf {a : AV} {h0 h : AH} (p : Pland ts sp m t h0 a h) (c : canB ts sp m t = false) : ∃ x o, a = .ref h0.length ∧ h = h0 ++ [.ins 2 [("text", .str x), ("station", opV o)]] ∧ Tx x ∧ barsB ts sp m t x o = true := by
  rcases p with ⟨ws, _, _, _, hk⟩ | p
  · rw [keeps_can hk] at c; cases c
  · exact p
theorem only1 {x : Str} {o : Option Int} (hx : Tx x) (hb : barsB too 3 4 6 x o = true) : x = "room" ∧ o = some 0 := by
  unfold barsB at hb
  rcases hx with rfl | rfl | rfl | rfl
  · cases o with
    | none => simp at hb
    | some i =>
      simp [too] at hb
      obtain ⟨⟨h1, h2⟩, h3⟩ := hb
      have : i = 0 ∨ i = 1 := by omega
      rcases this with rfl | rfl
      · exact ⟨rfl, rfl⟩
      · simp at h3
  · cases o <;> simp at hb
  · cases o <;> simp [too] at hb
  · cases o <;> simp [too] at hb
theorem only2 {x : Str} {o : Option Int} (hx : Tx x) (hb : barsB one 5 3 4 x o = true) : x = "space" ∧ o = none := by
  unfold barsB at hb
  rcases hx with rfl | rfl | rfl | rfl
  · cases o with
    | none => simp at hb
    | some i =>
      simp [one] at hb
      obtain ⟨⟨h1, h2⟩, h3⟩ := hb
      have : i = 0 := by omega
      subst this
      simp at h3
  · cases o <;> simp at hb
    exact ⟨rfl, rfl⟩
  · cases o <;> simp [one] at hb
  · cases o <;> simp [one] at hb
theorem only3 {x : Str} {o : Option Int} (hx : Tx x) (hb : barsB one 1 3 3 x o = true) : x = "few" ∧ o = none := by
  unfold barsB at hb
  rcases hx with rfl | rfl | rfl | rfl
  · cases o with
    | none => simp at hb
    | some i =>
      simp [one] at hb
      obtain ⟨⟨h1, h2⟩, h3⟩ := hb
      have : i = 0 := by omega
      subst this
      simp at h3
  · cases o <;> simp at hb
  · cases o <;> simp [one] at hb
    exact ⟨rfl, rfl⟩
  · cases o <;> simp [one] at hb
theorem only4 {x : Str} {o : Option Int} (hx : Tx x) (hb : barsB wee 1 9 3 x o = true) : x = "many" ∧ o = none := by
  unfold barsB at hb
  rcases hx with rfl | rfl | rfl | rfl
  · cases o with
    | none => simp at hb
    | some i =>
      simp [wee] at hb
      obtain ⟨⟨h1, h2⟩, h3⟩ := hb
      have : i = 0 := by omega
      subst this
      simp at h3
  · cases o <;> simp at hb
  · cases o <;> simp [wee] at hb
  · cases o <;> simp [wee] at hb
    exact ⟨rfl, rfl⟩
def Sl (ns : List Int) (σ : AS) (h : AH) : Prop := ∃ x1 x2 x3 x4 x5 x6 x7 x8 x9 x10 x11 x12 x13, σ = [some (.kl (ns.map .int)), x1, x2, x3, x4, x5, x6, x7, x8, x9, x10, x11, x12, x13]
theorem PlanOk.rev (k : PlanOk ts sp m t) : PlanOk ts.reverse sp m t := ⟨⟨by simpa using k.st.l1, by simpa using k.st.l2, fun s hs => k.st.r s (List.mem_reverse.mp hs), k.st.s1, k.st.s2⟩, k.m1, k.m2, k.t1, k.t2⟩
theorem PlanOk.fst (k : PlanOk ts sp m t) : PlanOk (ts.take 1) sp m t := ⟨⟨by have := k.st.l1; simp; omega, by have := k.st.l2; simp; omega, fun s hs => k.st.r s (List.mem_of_mem_take hs), k.st.s1, k.st.s2⟩, k.m1, k.m2, k.t1, k.t2⟩
theorem PlanOk.tck (k : PlanOk ts sp m t) : PlanOk ts sp m (1 + t % 60) := ⟨k.st, k.m1, k.m2, by omega, by omega⟩
theorem loop_ok {ns : List Int} (Z : ∀ σ h, Sl ns σ h → ∃ a h', (exs (callD P W (n + 9)) W (match b_law with | .cons _ r => r | .nil => .nil) σ h).bind endD = .ok a h' ∧ IsT a h') :
    ∃ a h', callD P W (n + 10) n_law [.kl (ns.map .int)] h = .ok a h' ∧ IsT a h' := by
  rw [callD_eq (d := d_law.df) rfl rfl]
  suffices q : ∃ a h', (exs (callD P W (n + 9)) W b_law ([some (.kl (ns.map .int))] ++ List.replicate 13 none) h).bind endD = .ok a h' ∧ IsT a h' from q
  have hL := lim_big
  have rk : rgOk 3 = true := by decide
  have hl3 : ¬ lim < 3 := by omega
  have ls : ∀ (xs : List AV) h, xs.length ≤ 100 → mkL .fz xs h = .ok (.lst xs) h := fun xs h hx => mkL_fz (by omega)
  rw [show b_law = .cons (match b_law with | .cons s _ => s | .nil => .expr (.cst .non)) (match b_law with | .cons _ r => r | .nil => .nil) from rfl]
  generalize (match b_law with | .cons _ r => r | .nil => .nil) = rest at Z ⊢
  simp [b_law, rk, hl3]
  refine for_ex (fun j σ h' => Sl ns σ h') (by simp) ⟨_, _, _, _, _, _, _, _, _, _, _, _, _, rfl⟩ ?_ ?_
  · rintro j v σ h' hv ⟨x1, x2, x3, x4, x5, x6, x7, x8, x9, x10, x11, x12, x13, rfl⟩
    obtain ⟨hi, rfl⟩ := rngL_get hv
    have e1 : (0 : Int) + (j : Int) = j := by omega
    rw [e1]
    obtain ⟨a, h1, p1, ts, sp, m, t, k, rfl, rfl⟩ := plan_ok (W := W) (n := n + 6) (h := h') (ns := ns) (b := j) (by omega)
    obtain ⟨a, h2, p2, ts', sp', m', t', k', rfl, rfl⟩ := plan_ok (W := W) (n := n + 6) (h := h1) (ns := ns) (b := j + 1) (by omega)
    have e2 : ((j + 1 : Nat) : Int) = (j : Int) + 1 := by omega
    rw [e2] at p2
    apply nx_ex
    have hl1 : ts.length ≤ 4 := k.st.l2
    obtain ⟨a, h3, r1, rfl⟩ := right_ok (W := W) (n := n) (h := h2) (os := [(ts', sp', m', t'), (ts, sp, m, 1 + t % 60), (ts.reverse, sp, m, t)]) k (by
      intro q hq
      simp only [List.mem_cons, List.not_mem_nil, or_false] at hq
      rcases hq with rfl | rfl | rfl
      · exact k'
      · exact k.tck
      · exact k.rev) (by simp)
    obtain ⟨a, h4, r2, rfl⟩ := right_ok (W := W) (n := n) (h := h3) (os := [(ts, sp, m, t)]) k.fst (by
      intro q hq
      simp only [List.mem_cons, List.not_mem_nil, or_false] at hq
      subst hq
      exact k) (by simp)
    simp only [List.map_cons, List.map_nil, plV] at r1 r2
    have ct : cutA (ts.map triV) none (some 1) = (ts.take 1).map triV := by
      have := k.st.l1
      have e0 : HT.sIx (ts.map triV).length 0 none = 0 := rfl
      have e1 : HT.sIx (ts.map triV).length (ts.map triV).length (some 1) = 1 := by
        simp [HT.sIx]
        omega
      unfold cutA
      rw [e0, e1]
      simp
    simp at r1
    have mr : ∀ h, mkL .fz (ts.map triV).reverse h = .ok (.lst (ts.map triV).reverse) h := fun h => ls _ _ (by simp; omega)
    have m1 : ∀ h, mkL .fz ((ts.take 1).map triV) h = .ok (.lst ((ts.take 1).map triV)) h := fun h => ls _ _ (by simp; omega)
    simp [R.forTurn, p1, p2, mr, ls, r1, ct, m1, r2, -List.map_take]
    exact ⟨_, _, ⟨rfl, rfl⟩, _, rfl, _, _, _, _, _, _, _, _, _, _, _, _, _, rfl⟩
  · rintro σ h' q
    simpa using Z σ h' q
end
end L

end

section
set_option Elab.async false
set_option linter.all false
set_option maxRecDepth 10000
namespace L
open PySem L2 R
set_option maxHeartbeats 4000000
section
variable {W n : Nat} {h : AH} {ts : List St3} {sp m t : Int} {v w : AV} {ws : List Int}
def bN (i : Nat) (s : Ss) : Ss := match i, s with
  | 0, s => s
  | i + 1, .cons _ r => bN i r
  | _, s => s
def lot (i : Nat) : Pl × Str × AV := match i with
  | 0 => ((one, 5, 3, 4), "space", .tup [.str "space", .non])
  | 1 => ((one, 1, 3, 3), "few", .tup [.str "few", .non])
  | _ => ((wee, 1, 9, 3), "many", .tup [.str "many", .non])
theorem ne_tx {x : Str} (cx : Cp x) : cmp2v .ne (.tup [.str x, .non]) (.tup [.str x, .non]) h = some false := by
  have e : toD 7 h (.str x) = some (.str x) := cx h
  have : toD 8 h (.tup [.str x, .non]) = some (.tuple [.str x, .none]) := by
    show (([AV.str x, .non]).mapM (toD 7 h)).map PyData.tuple = _
    simp [List.mapM_cons, e]
    rfl
  unfold cmp2v
  simp only [this]
  show some (!PyData.eqvAll [.str x, .none] [.str x, .none]) = _
  simp [PyData.eqvAll, PyData.eqv]
/-- the last part: three more plans, told by hand; two that are kept -/
theorem end_ok {σ : AS} (q : ∃ ns x1 x2 x3 x4 x5 x6 x7 x8 x9 x10 x11 x12 x13, σ = [some (.kl ns), x1, x2, x3, x4, x5, x6, x7, x8, x9, x10, x11, x12, x13]) :
    ∃ a h', (exs (callD P W (n + 9)) W (bN 7 b_law) σ h).bind endD = .ok a h' ∧ IsT a h' := by
  have hL := lim_big
  have l3 : ¬ lim < 3 := by omega
  have l2' : 2 < lim := by omega
  have ls : ∀ (xs : List AV) h, xs.length ≤ 100 → mkL .fz xs h = .ok (.lst xs) h := fun xs h hx => mkL_fz (by omega)
  have lo : ∀ (xs : List AV) h, xs.length ≤ 100 → mkL .ow xs h = .ok (.own xs) h := fun xs h hx => mkL_ow (by omega)
  obtain ⟨ns, x1, x2, x3, x4, x5, x6, x7, x8, x9, x10, x11, x12, x13, rfl⟩ := q
  simp [b_law, bN, ls, lo, l2', l3]
  refine for_ex (fun j σ h => ∃ x2 x7 x8 x9 x10 x11, σ = [some (.kl ns), x1, x2, x3, x4, some (.lst [.tup [.lst [.tup [.int 10, .int 2, .int 9]], .int 5, .int 3, .int 4, .tup [.str "space", .non]], .tup [.lst [.tup [.int 10, .int 2, .int 9]], .int 1, .int 3, .int 3, .tup [.str "few", .non]], .tup [.lst [.tup [.int 1, .int 0, .int 1]], .int 1, .int 9, .int 3, .tup [.str "many", .non]]]), x6, x7, x8, x9, x10, x11, x12, x13]) (by simp) ⟨_, _, _, _, _, _, rfl⟩ ?_ ?_
  · rintro j v σ h' hv ⟨x2, x7, x8, x9, x10, x11, rfl⟩
    apply nx_ex
    match j, hv with
    | 0, e =>
      simp at e
      subst e
      obtain ⟨a, H, ep, q⟩ := planned_ok (W := W) (n := n + 1) (h := h') (v := .lst (one.map triV)) (.inl rfl) (one_ok (s := 5) (t := 4) (by decide) (by decide) (by decide) (by decide))
      obtain ⟨x, o, rfl, rfl, hx, hb⟩ := barsOf q (by decide)
      obtain ⟨rfl, rfl⟩ := only2 hx hb
      simp only [one, List.map_cons, List.map_nil, triV] at ep
      have ho : (h' ++ [AO.ins 2 [(Str.ofString "text", .str "space"), (Str.ofString "station", opV none)]])[h'.length]? = some (.ins 2 [("text", .str "space"), ("station", .non)]) := by simp [opV]
      generalize h' ++ [AO.ins 2 [(Str.ofString "text", .str "space"), (Str.ofString "station", opV none)]] = H at ep ho
      generalize h'.length = a at ep ho
      simp [R.forTurn, ep, iscI ho, ho, ne_tx cp2]
      all_goals exact ⟨_, _, ⟨rfl, rfl⟩, _, rfl, _, _, _, _, _, _, rfl⟩
    | 1, e =>
      simp at e
      subst e
      obtain ⟨a, H, ep, q⟩ := planned_ok (W := W) (n := n + 1) (h := h') (v := .lst (one.map triV)) (.inl rfl) (one_ok (s := 1) (t := 3) (by decide) (by decide) (by decide) (by decide))
      obtain ⟨x, o, rfl, rfl, hx, hb⟩ := barsOf q (by decide)
      obtain ⟨rfl, rfl⟩ := only3 hx hb
      simp only [one, List.map_cons, List.map_nil, triV] at ep
      have ho : (h' ++ [AO.ins 2 [(Str.ofString "text", .str "few"), (Str.ofString "station", opV none)]])[h'.length]? = some (.ins 2 [("text", .str "few"), ("station", .non)]) := by simp [opV]
      generalize h' ++ [AO.ins 2 [(Str.ofString "text", .str "few"), (Str.ofString "station", opV none)]] = H at ep ho
      generalize h'.length = a at ep ho
      simp [R.forTurn, ep, iscI ho, ho, ne_tx cp3]
      all_goals exact ⟨_, _, ⟨rfl, rfl⟩, _, rfl, _, _, _, _, _, _, rfl⟩
    | 2, e =>
      simp at e
      subst e
      obtain ⟨a, H, ep, q⟩ := planned_ok (W := W) (n := n + 1) (h := h') (v := .lst (wee.map triV)) (.inl rfl) (wee_ok (m := 9) (t := 3) (by decide) (by decide) (by decide) (by decide))
      obtain ⟨x, o, rfl, rfl, hx, hb⟩ := barsOf q (by decide)
      obtain ⟨rfl, rfl⟩ := only4 hx hb
      simp only [wee, List.map_cons, List.map_nil, triV] at ep
      have ho : (h' ++ [AO.ins 2 [(Str.ofString "text", .str "many"), (Str.ofString "station", opV none)]])[h'.length]? = some (.ins 2 [("text", .str "many"), ("station", .non)]) := by simp [opV]
      generalize h' ++ [AO.ins 2 [(Str.ofString "text", .str "many"), (Str.ofString "station", opV none)]] = H at ep ho
      generalize h'.length = a at ep ho
      simp [R.forTurn, ep, iscI ho, ho, ne_tx cp4]
      all_goals exact ⟨_, _, ⟨rfl, rfl⟩, _, rfl, _, _, _, _, _, _, rfl⟩
    | j + 3, e => simp at e
  · rintro σ h' ⟨x2, x7, x8, x9, x10, x11, rfl⟩
    obtain ⟨a, H, e1, q⟩ := planned_ok (W := W) (n := n + 1) (h := h') (v := .lst (one.map triV)) (.inl rfl) (one_ok (s := 1) (t := 4) (by decide) (by decide) (by decide) (by decide))
    obtain ⟨ws, rfl, rfl, hw, hk⟩ := keepsOf q (by decide)
    obtain ⟨w0, rfl⟩ : ∃ w0, ws = [w0] := by
      match ws, hw with
      | [w0], _ => exact ⟨w0, rfl⟩
    have ew : w0 = 2 := by
      simp [keepsB, one] at hk
      omega
    subst ew
    have ho : (h' ++ [AO.ins 1 [(Str.ofString "waits", AV.ref (h'.length + 1))], .lst ([(2 : Int)].map .int)])[h'.length]? = some (.ins 1 [("waits", .ref (h'.length + 1))]) := by simp
    have hq : (h' ++ [AO.ins 1 [(Str.ofString "waits", AV.ref (h'.length + 1))], .lst ([(2 : Int)].map .int)])[h'.length + 1]? = some (.lst ([(2 : Int)].map .int)) := by
      rw [List.getElem?_append_right (by omega)]
      simp
    generalize h' ++ [AO.ins 1 [(Str.ofString "waits", AV.ref (h'.length + 1))], .lst ([(2 : Int)].map .int)] = H1 at e1 ho hq
    generalize h'.length + 1 = q1 at ho hq
    generalize h'.length = o1 at e1 ho
    obtain ⟨a, H, e2, q⟩ := planned_ok (W := W) (n := n + 1) (h := H1) (v := .lst (wee.map triV)) (.inl rfl) (wee_ok (m := 1) (t := 1) (by decide) (by decide) (by decide) (by decide))
    obtain ⟨ws, rfl, rfl, hw, hk⟩ := keepsOf q (by decide)
    obtain ⟨w0, rfl⟩ : ∃ w0, ws = [w0] := by
      match ws, hw with
      | [w0], _ => exact ⟨w0, rfl⟩
    have ew : w0 = 0 := by
      simp [keepsB, wee] at hk
      omega
    subst ew
    have ho2 : (H1 ++ [AO.ins 1 [(Str.ofString "waits", AV.ref (H1.length + 1))], .lst ([(0 : Int)].map .int)])[H1.length]? = some (.ins 1 [("waits", .ref (H1.length + 1))]) := by simp
    have hq2 : (H1 ++ [AO.ins 1 [(Str.ofString "waits", AV.ref (H1.length + 1))], .lst ([(0 : Int)].map .int)])[H1.length + 1]? = some (.lst ([(0 : Int)].map .int)) := by
      rw [List.getElem?_append_right (by omega)]
      simp
    generalize H1 ++ [AO.ins 1 [(Str.ofString "waits", AV.ref (H1.length + 1))], .lst ([(0 : Int)].map .int)] = H2 at e2 ho2 hq2
    generalize H1.length + 1 = q2 at ho2 hq2
    generalize H1.length = o2 at e2 ho2
    have c1 : cmp2v .eq (.ref q1) (.lst [.int 2]) H1 = some true := by
      have := eq_ll (h := H1) (v := .ref q1) (w := .lst [.int 2]) (a := [2]) (b := [2]) (.inr ⟨q1, rfl, hq⟩) (.inl rfl)
      simpa using this
    have c2 : cmp2v .eq (.ref q2) (.lst [.int 0]) H2 = some true := by
      have := eq_ll (h := H2) (v := .ref q2) (w := .lst [.int 0]) (a := [0]) (b := [0]) (.inr ⟨q2, rfl, hq2⟩) (.inl rfl)
      simpa using this
    simp only [one, wee, List.map_cons, List.map_nil, triV] at e1 e2
    simp [ls, e1, e2, ho, ho2, c1, c2]
    exact ⟨_, _, ⟨rfl, rfl⟩, rfl⟩
end
end L

end

section
set_option Elab.async false
set_option linter.all false
set_option maxRecDepth 10000
namespace L
open PySem L2 R
set_option maxHeartbeats 4000000
section
variable {W n : Nat} {h : AH}
def bH (i : Nat) (s : Ss) : S := match i, s with
  | 0, .cons s _ => s
  | i + 1, .cons _ r => bH i r
  | _, _ => .expr (.cst .non)
theorem in_room {H3 : AH} : inQ H3 (.tup [.str "room", .int 0]) (.tup [.tup [.str "room", .int 0]]) = some true := by
  have e7 : toD 7 H3 (.str "room") = some (.str "room") := cp1 H3
  have e6 : toD 6 H3 (.str "room") = some (.str "room") := cp1 H3
  have t1 : toD 8 H3 (.tup [.str "room", .int 0]) = some (.tuple [.str "room", .int 0]) := by
    show (([AV.str "room", .int 0]).mapM (toD 7 H3)).map PyData.tuple = _
    simp [List.mapM_cons, e7]
    rfl
  have t2 : toD 7 H3 (.tup [.str "room", .int 0]) = some (.tuple [.str "room", .int 0]) := by
    show (([AV.str "room", .int 0]).mapM (toD 6 H3)).map PyData.tuple = _
    simp [List.mapM_cons, e6]
    rfl
  have t3 : toD 8 H3 (.tup [.tup [.str "room", .int 0]]) = some (.tuple [.tuple [.str "room", .int 0]]) := by
    show (([AV.tup [.str "room", .int 0]]).mapM (toD 7 H3)).map PyData.tuple = _
    simp [List.mapM_cons, t2]
  unfold inQ
  simp only [flatOf, t1, t3]
  simp [PyData.eqv, PyData.eqvAll]
theorem law_split : bN 1 b_law = .cons (bH 1 b_law) (.cons (bH 2 b_law) (.cons (bH 3 b_law) (.cons (bH 4 b_law) (.cons (bH 5 b_law) (.cons (bH 6 b_law) (bN 7 b_law)))))) := rfl
theorem c_two : canB two 3 4 6 = true := by decide
theorem c_too : canB too 3 4 6 = false := by decide
theorem mid_run {cl : Cl} {W : Nat} {h H1 H2 H3 : AH} {rest : Ss} {o1 q1 o3 : Nat} {k : List AV} {x1 x2 x3 x4 x5 x6 x7 x8 x9 x10 x11 x12 x13 : Option AV}
    (Z : ∀ σ h, (∃ ns x1 x2 x3 x4 x5 x6 x7 x8 x9 x10 x11 x12 x13, σ = [some (.kl ns), x1, x2, x3, x4, x5, x6, x7, x8, x9, x10, x11, x12, x13]) → ∃ a h', (exs cl W rest σ h).bind endD = .ok a h' ∧ IsT a h')
    (e1 : cl n_planned [.ref (List.length h), .int 3, .int 4, .int 6] (h ++ [.lst [.tup [.int 10, .int 2, .int 1], .tup [.int 5, .int 3, .int 2]]]) = .ok (.ref o1) H1)
    (pi : ∀ σ, putH (.ref (List.length h)) (.int 0) (.tup [.int 10, .int 6, .int 1]) H1 σ = .ok (.nx σ) H2)
    (e2 : cl n_planned [.ref (List.length h), .int 3, .int 4, .int 6] H2 = .ok (.ref o3) H3)
    (c1 : H3[o1]? = some (.ins 1 [("waits", .ref q1)])) (c3 : H3[o3]? = some (.ins 2 [("text", .str "room"), ("station", .int 0)]))
    (sm : bltv .sum .fz [.ref q1] H3 = .ok (.int 9) H3)
    (sh : cl n_Keeps_shows [.ref o1, .ref (List.length h), .int 3, .int 4, .int 6] H3 = .ok (.bl false) H3) :
    ∃ a h', (exs cl W (.cons (bH 1 b_law) (.cons (bH 2 b_law) (.cons (bH 3 b_law) (.cons (bH 4 b_law) (.cons (bH 5 b_law) (.cons (bH 6 b_law) rest)))))) [some (.kl k), x1, x2, x3, x4, x5, x6, x7, x8, x9, x10, x11, x12, x13] h).bind endD = .ok a h' ∧ IsT a h' := by
  have hL := lim_big
  have l2 : ∀ (xs : List AV) h, xs.length ≤ 100 → mkL .hp xs h = .ok (.ref h.length) (h ++ [.lst xs]) := fun xs h hx => mkL_hp (by omega)
  have inq := in_room (H3 := H3)
  have lk5 : List.lookup 1 [((1 : Nat), (16 : Nat)), (2, 18)] = some 16 := rfl
  simp only [bH, b_law]
  simp [l2, e1, pi, e2, iscI c1, iscI c3, c1, c3, sm, inq, sh, lk5]
  exact Z _ _ ⟨_, _, _, _, _, _, _, _, _, _, _, _, _, _, rfl⟩
theorem mid_ok {ns : List Int} (σ : AS) (h : AH) (q : Sl ns σ h) : ∃ a h', (exs (callD P W (n + 9)) W (bN 1 b_law) σ h).bind endD = .ok a h' ∧ IsT a h' := by
  have Z := fun σ h q => end_ok (W := W) (n := n) (σ := σ) (h := h) q
  rw [law_split]
  generalize bN 7 b_law = rest at Z ⊢
  obtain ⟨x1, x2, x3, x4, x5, x6, x7, x8, x9, x10, x11, x12, x13, rfl⟩ := q
  have hL := lim_big
  have l2 : ∀ (xs : List AV) h, xs.length ≤ 100 → mkL .hp xs h = .ok (.ref h.length) (h ++ [.lst xs]) := fun xs h hx => mkL_hp (by omega)
  have ls : ∀ (xs : List AV) h, xs.length ≤ 100 → mkL .fz xs h = .ok (.lst xs) h := fun xs h hx => mkL_fz (by omega)
  -- the list, on the heap
  have g0 : (h ++ [AO.lst (two.map triV)])[h.length]? = some (.lst (two.map triV)) := by simp
  obtain ⟨G, hG⟩ : ∃ G, G = h ++ [AO.lst (two.map triV)] := ⟨_, rfl⟩
  obtain ⟨q0, hq0⟩ : ∃ q0, q0 = List.length h := ⟨_, rfl⟩
  rw [← hG, ← hq0] at g0
  -- the first plan
  obtain ⟨a, H, e1, q⟩ := planned_ok (W := W) (n := n + 1) (h := G) (v := .ref q0) (.inr ⟨q0, rfl, g0⟩) two_ok
  obtain ⟨ws, rfl, rfl, hw, hk⟩ := keepsOf q c_two
  have lq : q0 < List.length G := (List.getElem?_eq_some_iff.mp g0).1
  have a0 : (G ++ [AO.ins 1 [(Str.ofString "waits", AV.ref (List.length G + 1))], .lst (ws.map .int)])[q0]? = some (.lst (two.map triV)) := by
    rw [List.getElem?_append_left lq]
    exact g0
  have a1 : (G ++ [AO.ins 1 [(Str.ofString "waits", AV.ref (List.length G + 1))], .lst (ws.map .int)])[List.length G]? = some (.ins 1 [("waits", .ref (List.length G + 1))]) := by simp
  have a2 : (G ++ [AO.ins 1 [(Str.ofString "waits", AV.ref (List.length G + 1))], .lst (ws.map .int)])[List.length G + 1]? = some (.lst (ws.map .int)) := by
    rw [List.getElem?_append_right (by omega)]
    simp
  have d1 : q0 ≠ List.length G := by omega
  have d2 : q0 ≠ List.length G + 1 := by omega
  generalize G ++ [AO.ins 1 [(Str.ofString "waits", AV.ref (List.length G + 1))], .lst (ws.map .int)] = H1 at e1 a0 a1 a2
  generalize List.length G + 1 = q1 at a1 a2 d2
  generalize List.length G = o1 at e1 a1 d1
  -- the list is changed
  have pi := fun σ => putH_i (h := H1) (n := q0) (xs := two.map triV) (i := 0) (j := 0) (v := triV (10, 6, 1)) (σ := σ) a0 (ixN_nat (i := 0) (by decide)) rfl
  have es : (two.map triV).set 0 (triV (10, 6, 1)) = too.map triV := rfl
  rw [es] at pi
  have b0 : (H1.set q0 (.lst (too.map triV)))[q0]? = some (.lst (too.map triV)) := List.getElem?_set_self (List.getElem?_eq_some_iff.mp a0).1
  have b1 : (H1.set q0 (.lst (too.map triV)))[o1]? = some (.ins 1 [("waits", .ref q1)]) := by
    rw [List.getElem?_set_ne d1]
    exact a1
  have b2 : (H1.set q0 (.lst (too.map triV)))[q1]? = some (.lst (ws.map .int)) := by
    rw [List.getElem?_set_ne d2]
    exact a2
  generalize H1.set q0 (.lst (too.map triV)) = H2 at pi b0 b1 b2
  -- the last plan
  obtain ⟨a, H, e2, q⟩ := planned_ok (W := W) (n := n + 1) (h := H2) (v := .ref q0) (.inr ⟨q0, rfl, b0⟩) too_ok
  obtain ⟨x, o, rfl, rfl, hx, hb⟩ := barsOf q c_too
  obtain ⟨rfl, rfl⟩ := only1 hx hb
  have lift : ∀ (i : Nat) (y : AO), H2[i]? = some y → (H2 ++ [AO.ins 2 [(Str.ofString "text", .str "room"), (Str.ofString "station", opV (some 0))]])[i]? = some y := fun i y e => by
    rw [List.getElem?_append_left (List.getElem?_eq_some_iff.mp e).1]
    exact e
  have c0 := lift _ _ b0
  have c1 := lift _ _ b1
  have c2 := lift _ _ b2
  have c3 : (H2 ++ [AO.ins 2 [(Str.ofString "text", .str "room"), (Str.ofString "station", opV (some 0))]])[List.length H2]? = some (.ins 2 [("text", .str "room"), ("station", .int 0)]) := by simp [opV]
  clear lift
  generalize H2 ++ [AO.ins 2 [(Str.ofString "text", .str "room"), (Str.ofString "station", opV (some 0))]] = H3 at e2 c0 c1 c2 c3
  generalize List.length H2 = o3 at e2 c3
  have lw : LV H3 (.ref q1) (ws.map .int) := .inr ⟨q1, rfl, c2⟩
  have sw : ws.sum = 9 := by
    unfold keepsB at hk
    simp only [Bool.and_eq_true, decide_eq_true_eq] at hk
    have := hk.2
    have : (two.map (·.1)).sum = 15 := by decide
    omega
  have nk : keepsB too 3 4 6 ws = false := by
    cases e : keepsB too 3 4 6 ws with
    | false => rfl
    | true =>
      have := keeps_can e
      revert this
      decide
  have sh := shows_okL (W := W) (n := n + 6) (h := H3) (v := .ref q0) (.inr ⟨q0, rfl, c0⟩) too_ok (by rw [hw]; decide) c1 c2
  rw [nk] at sh
  have sm : bltv .sum .fz [.ref q1] H3 = .ok (.int 9) H3 := by rw [sum_q lw.rdL, sw]
  subst hG
  subst hq0
  exact mid_run Z e1 pi e2 c1 c3 sm sh
theorem run : ∀ ns : List Int, ns.length ≤ 63 → ∃ h', callD (T.map Dd.df) 5 20 n_law [.kl (ns.map .int)] [] = .ok (.bl true) h' := by
  intro ns hns
  obtain ⟨a, h', e, q⟩ := loop_ok (W := 5) (n := 10) (h := []) (ns := ns) fun σ h q => mid_ok σ h q
  exact ⟨h', by rw [e, q]⟩
end
def W : Nat := 5
end L

end

open PySem PySem.W PyProof.Rows
set_option maxRecDepth 100000 in
set_option maxHeartbeats 0 in
theorem PySem.Challenge.cw_ropecabins_k06_whole_plans_holds : PySem.Challenge.rw_ropecabins_k06_whole_plans.Holds := by
  w_on; o_law; k_head; (case hw => w_witness2)
  k_fill
  refine R.walk (l := PySem.Challenge.rw_ropecabins_k06_whole_plans) L.T L.gc L.ci 36 63 L.W 20 L.d_law "_law_script" rfl (by decide) rfl ⟨rfl, rfl, by decide, by decide⟩ (fun w h Y => PySem.W.kIn_of Y) rfl rfl rfl rfl L.chk L.scs L.run ?F
  case F =>
    intro w
    refine' ⟨_, _, ?ytps, ?ynbs, ?ygcs, ?ycls, ?ykts⟩
    case ytps =>
      refine' R.Tops.cons ?yya0 ?yyl0 ?yyc0 ?yyk0 ?yyb0 ?yyr0
      (case yya0 => k_is); (case yyl0 => k_is); (case yyc0 => k_is); (case yyk0 => k_is)
      (case yyb0 => exact fun _ _ _ _ _ _ us hl => match us, hl with | [_], _ => rfl)
      case' yyr0 => refine' R.Tops.cons ?yya1 ?yyl1 ?yyc1 ?yyk1 ?yyb1 ?yyr1
      (case yya1 => k_is); (case yyl1 => k_is); (case yyc1 => k_is); (case yyk1 => k_is)
      (case yyb1 => exact fun _ _ _ _ _ _ us hl => match us, hl with | [_, _, _], _ => rfl)
      case' yyr1 => refine' R.Tops.cons ?yya2 ?yyl2 ?yyc2 ?yyk2 ?yyb2 ?yyr2
      (case yya2 => k_is); (case yyl2 => k_is); (case yyc2 => k_is); (case yyk2 => k_is)
      (case yyb2 => exact fun _ _ _ _ _ _ us hl => match us, hl with | [_], _ => rfl)
      case' yyr2 => refine' R.Tops.cons ?yya3 ?yyl3 ?yyc3 ?yyk3 ?yyb3 ?yyr3
      (case yya3 => k_is); (case yyl3 => k_is); (case yyc3 => k_is); (case yyk3 => k_is)
      (case yyb3 => exact fun _ _ _ _ _ _ us hl => match us, hl with | [_], _ => rfl)
      case' yyr3 => refine' R.Tops.cons ?yya4 ?yyl4 ?yyc4 ?yyk4 ?yyb4 ?yyr4
      (case yya4 => k_is); (case yyl4 => k_is); (case yyc4 => k_is); (case yyk4 => k_is)
      (case yyb4 => exact fun _ _ _ _ _ _ us hl => match us, hl with | [_], _ => rfl)
      case' yyr4 => refine' R.Tops.cons ?yya5 ?yyl5 ?yyc5 ?yyk5 ?yyb5 ?yyr5
      (case yya5 => k_is); (case yyl5 => k_is); (case yyc5 => k_is); (case yyk5 => k_is)
      (case yyb5 => exact fun _ _ _ _ _ _ us hl => match us, hl with | [_], _ => rfl)
      case' yyr5 => refine' R.Tops.cons ?yya6 ?yyl6 ?yyc6 ?yyk6 ?yyb6 ?yyr6
      (case yya6 => k_is); (case yyl6 => k_is); (case yyc6 => k_is); (case yyk6 => k_is)
      (case yyb6 => exact fun _ _ _ _ _ _ us hl => match us, hl with | [_, _], _ => rfl)
      case' yyr6 => refine' R.Tops.cons ?yya7 ?yyl7 ?yyc7 ?yyk7 ?yyb7 ?yyr7
      (case yya7 => k_is); (case yyl7 => k_is); (case yyc7 => k_is); (case yyk7 => k_is)
      (case yyb7 => exact fun _ _ _ _ _ _ us hl => match us, hl with | [_], _ => rfl)
      case' yyr7 => refine' R.Tops.cons ?yya8 ?yyl8 ?yyc8 ?yyk8 ?yyb8 ?yyr8
      (case yya8 => k_is); (case yyl8 => k_is); (case yyc8 => k_is); (case yyk8 => k_is)
      (case yyb8 => exact fun _ _ _ _ _ _ us hl => match us, hl with | [_], _ => rfl)
      case' yyr8 => refine' R.Tops.cons ?yya9 ?yyl9 ?yyc9 ?yyk9 ?yyb9 ?yyr9
      (case yya9 => k_is); (case yyl9 => k_is); (case yyc9 => k_is); (case yyk9 => k_is)
      (case yyb9 => exact fun _ _ _ _ _ _ us hl => match us, hl with | [_], _ => rfl)
      case' yyr9 => refine' R.Tops.cons ?yya10 ?yyl10 ?yyc10 ?yyk10 ?yyb10 ?yyr10
      (case yya10 => k_is); (case yyl10 => k_is); (case yyc10 => k_is); (case yyk10 => k_is)
      (case yyb10 => exact fun _ _ _ _ _ _ us hl => match us, hl with | [_], _ => rfl)
      case' yyr10 => refine' R.Tops.cons ?yya11 ?yyl11 ?yyc11 ?yyk11 ?yyb11 ?yyr11
      (case yya11 => k_is); (case yyl11 => k_is); (case yyc11 => k_is); (case yyk11 => k_is)
      (case yyb11 => exact fun _ _ _ _ _ _ us hl => match us, hl with | [_], _ => rfl)
      case' yyr11 => refine' R.Tops.cons ?yya12 ?yyl12 ?yyc12 ?yyk12 ?yyb12 ?yyr12
      (case yya12 => k_is); (case yyl12 => k_is); (case yyc12 => k_is); (case yyk12 => k_is)
      (case yyb12 => exact fun _ _ _ _ _ _ us hl => match us, hl with | [_], _ => rfl)
      case' yyr12 => refine' R.Tops.cons ?yya13 ?yyl13 ?yyc13 ?yyk13 ?yyb13 ?yyr13
      (case yya13 => k_is); (case yyl13 => k_is); (case yyc13 => k_is); (case yyk13 => k_is)
      (case yyb13 => exact fun _ _ _ _ _ _ us hl => match us, hl with | [_, _], _ => rfl)
      case' yyr13 => refine' R.Tops.cons ?yya14 ?yyl14 ?yyc14 ?yyk14 ?yyb14 ?yyr14
      (case yya14 => k_is); (case yyl14 => k_is); (case yyc14 => k_is); (case yyk14 => k_is)
      (case yyb14 => exact fun _ _ _ _ _ _ us hl => match us, hl with | [_, _, _, _], _ => rfl)
      case' yyr14 => refine' R.Tops.meth (x := "Keeps") ?yyg15 ?yyz15 ?yya15 ?yyl15 ?yyc15 ?yyk15 ?yyb15 ?yyr15
      (case yyg15 => rfl); (case yyz15 => k_is)
      (case yya15 => k_is); (case yyl15 => k_is); (case yyc15 => k_is); (case yyk15 => k_is)
      (case yyb15 => exact fun _ _ _ _ _ _ us hl => match us, hl with | [_, _], _ => rfl)
      case' yyr15 => refine' R.Tops.meth (x := "Keeps") ?yyg16 ?yyz16 ?yya16 ?yyl16 ?yyc16 ?yyk16 ?yyb16 ?yyr16
      (case yyg16 => rfl); (case yyz16 => k_is)
      (case yya16 => k_is); (case yyl16 => k_is); (case yyc16 => k_is); (case yyk16 => k_is)
      (case yyb16 => exact fun _ _ _ _ _ _ us hl => match us, hl with | [_, _, _, _, _], _ => rfl)
      case' yyr16 => refine' R.Tops.meth (x := "Bars") ?yyg17 ?yyz17 ?yya17 ?yyl17 ?yyc17 ?yyk17 ?yyb17 ?yyr17
      (case yyg17 => rfl); (case yyz17 => k_is)
      (case yya17 => k_is); (case yyl17 => k_is); (case yyc17 => k_is); (case yyk17 => k_is)
      (case yyb17 => exact fun _ _ _ _ _ _ us hl => match us, hl with | [_, _, _], _ => rfl)
      case' yyr17 => refine' R.Tops.meth (x := "Bars") ?yyg18 ?yyz18 ?yya18 ?yyl18 ?yyc18 ?yyk18 ?yyb18 ?yyr18
      (case yyg18 => rfl); (case yyz18 => k_is)
      (case yya18 => k_is); (case yyl18 => k_is); (case yyc18 => k_is); (case yyk18 => k_is)
      (case yyb18 => exact fun _ _ _ _ _ _ us hl => match us, hl with | [_, _, _, _, _], _ => rfl)
      case' yyr18 => refine' R.Tops.cons ?yya19 ?yyl19 ?yyc19 ?yyk19 ?yyb19 ?yyr19
      (case yya19 => k_is); (case yyl19 => k_is); (case yyc19 => k_is); (case yyk19 => k_is)
      (case yyb19 => exact fun _ _ _ _ _ _ us hl => match us, hl with | [_], _ => rfl)
      case' yyr19 => refine' R.Tops.cons ?yya20 ?yyl20 ?yyc20 ?yyk20 ?yyb20 ?yyr20
      (case yya20 => k_is); (case yyl20 => k_is); (case yyc20 => k_is); (case yyk20 => k_is)
      (case yyb20 => exact fun _ _ _ _ _ _ us hl => match us, hl with | [_], _ => rfl)
      case' yyr20 => refine' R.Tops.cons ?yya21 ?yyl21 ?yyc21 ?yyk21 ?yyb21 ?yyr21
      (case yya21 => k_is); (case yyl21 => k_is); (case yyc21 => k_is); (case yyk21 => k_is)
      (case yyb21 => exact fun _ _ _ _ _ _ us hl => match us, hl with | [_], _ => rfl)
      case' yyr21 => refine' R.Tops.cons ?yya22 ?yyl22 ?yyc22 ?yyk22 ?yyb22 ?yyr22
      (case yya22 => k_is); (case yyl22 => k_is); (case yyc22 => k_is); (case yyk22 => k_is)
      (case yyb22 => exact fun _ _ _ _ _ _ us hl => match us, hl with | [_, _], _ => rfl)
      case' yyr22 => refine' R.Tops.cons ?yya23 ?yyl23 ?yyc23 ?yyk23 ?yyb23 ?yyr23
      (case yya23 => k_is); (case yyl23 => k_is); (case yyc23 => k_is); (case yyk23 => k_is)
      (case yyb23 => exact fun _ _ _ _ _ _ us hl => match us, hl with | [_, _, _, _], _ => rfl)
      case' yyr23 => refine' R.Tops.cons ?yya24 ?yyl24 ?yyc24 ?yyk24 ?yyb24 ?yyr24
      (case yya24 => k_is); (case yyl24 => k_is); (case yyc24 => k_is); (case yyk24 => k_is)
      (case yyb24 => exact fun _ _ _ _ _ _ us hl => match us, hl with | [_, _, _], _ => rfl)
      case' yyr24 => refine' R.Tops.cons ?yya25 ?yyl25 ?yyc25 ?yyk25 ?yyb25 ?yyr25
      (case yya25 => k_is); (case yyl25 => k_is); (case yyc25 => k_is); (case yyk25 => k_is)
      (case yyb25 => exact fun _ _ _ _ _ _ us hl => match us, hl with | [_, _], _ => rfl)
      case' yyr25 => refine' R.Tops.cons ?yya26 ?yyl26 ?yyc26 ?yyk26 ?yyb26 ?yyr26
      (case yya26 => k_is); (case yyl26 => k_is); (case yyc26 => k_is); (case yyk26 => k_is)
      (case yyb26 => exact fun _ _ _ _ _ _ us hl => match us, hl with | [_, _, _], _ => rfl)
      case' yyr26 => refine' R.Tops.cons ?yya27 ?yyl27 ?yyc27 ?yyk27 ?yyb27 ?yyr27
      (case yya27 => k_is); (case yyl27 => k_is); (case yyc27 => k_is); (case yyk27 => k_is)
      (case yyb27 => exact fun _ _ _ _ _ _ us hl => match us, hl with | [_, _, _], _ => rfl)
      case' yyr27 => refine' R.Tops.cons ?yya28 ?yyl28 ?yyc28 ?yyk28 ?yyb28 ?yyr28
      (case yya28 => k_is); (case yyl28 => k_is); (case yyc28 => k_is); (case yyk28 => k_is)
      (case yyb28 => exact fun _ _ _ _ _ _ us hl => match us, hl with | [_, _], _ => rfl)
      case' yyr28 => refine' R.Tops.cons ?yya29 ?yyl29 ?yyc29 ?yyk29 ?yyb29 ?yyr29
      (case yya29 => k_is); (case yyl29 => k_is); (case yyc29 => k_is); (case yyk29 => k_is)
      (case yyb29 => exact fun _ _ _ _ _ _ us hl => match us, hl with | [_, _, _, _, _], _ => rfl)
      case' yyr29 => refine' R.Tops.cons ?yya30 ?yyl30 ?yyc30 ?yyk30 ?yyb30 ?yyr30
      (case yya30 => k_is); (case yyl30 => k_is); (case yyc30 => k_is); (case yyk30 => k_is)
      (case yyb30 => exact fun _ _ _ _ _ _ us hl => match us, hl with | [_, _, _, _, _, _], _ => rfl)
      case' yyr30 => refine' R.Tops.cons ?yya31 ?yyl31 ?yyc31 ?yyk31 ?yyb31 ?yyr31
      (case yya31 => k_is); (case yyl31 => k_is); (case yyc31 => k_is); (case yyk31 => k_is)
      (case yyb31 => exact fun _ _ _ _ _ _ us hl => match us, hl with | [_], _ => rfl)
      case' yyr31 => refine' R.Tops.cons ?yya32 ?yyl32 ?yyc32 ?yyk32 ?yyb32 ?yyr32
      (case yya32 => k_is); (case yyl32 => k_is); (case yyc32 => k_is); (case yyk32 => k_is)
      (case yyb32 => exact fun _ _ _ _ _ _ us hl => match us, hl with | [_, _], _ => rfl)
      case' yyr32 => refine' R.Tops.cons ?yya33 ?yyl33 ?yyc33 ?yyk33 ?yyb33 ?yyr33
      (case yya33 => k_is); (case yyl33 => k_is); (case yyc33 => k_is); (case yyk33 => k_is)
      (case yyb33 => exact fun _ _ _ _ _ _ us hl => match us, hl with | [_, _, _, _], _ => rfl)
      case' yyr33 => refine' R.Tops.cons ?yya34 ?yyl34 ?yyc34 ?yyk34 ?yyb34 ?yyr34
      (case yya34 => k_is); (case yyl34 => k_is); (case yyc34 => k_is); (case yyk34 => k_is)
      (case yyb34 => exact fun _ _ _ _ _ _ us hl => match us, hl with | [_, _], _ => rfl)
      case' yyr34 => refine' R.Tops.cons ?yya35 ?yyl35 ?yyc35 ?yyk35 ?yyb35 ?yyr35
      (case yya35 => k_is); (case yyl35 => k_is); (case yyc35 => k_is); (case yyk35 => k_is)
      (case yyb35 => exact fun _ _ _ _ _ _ us hl => match us, hl with | [_, _], _ => rfl)
      case' yyr35 => refine' R.Tops.cons ?yya36 ?yyl36 ?yyc36 ?yyk36 ?yyb36 ?yyr36
      (case yya36 => k_is); (case yyl36 => k_is); (case yyc36 => k_is); (case yyk36 => k_is)
      (case yyb36 => exact fun _ _ _ _ _ _ us hl => match us, hl with | [_], _ => rfl)
      (case yyr36 => exact R.Tops.nil)
    case ynbs => exact ⟨by k_is, by k_is, by k_is, by k_is, by k_is, by k_is, by k_is, by k_is, by k_is, by k_is, by k_is, by k_is, by k_is, by k_is, by k_is, by k_is, by k_is⟩
    case ygcs =>
      refine' R.Gcs.cons ?yga0 ?yge0 ?ygt0
      (case yga0 => k_is); (case yge0 => exact ⟨_, rfl⟩)
      case' ygt0 => refine' R.Gcs.cons ?yga1 ?yge1 ?ygt1
      (case yga1 => k_is); (case yge1 => exact ⟨_, rfl⟩)
      case' ygt1 => refine' R.Gcs.cons ?yga2 ?yge2 ?ygt2
      (case yga2 => k_is); (case yge2 => exact ⟨_, rfl⟩)
      case' ygt2 => refine' R.Gcs.cons ?yga3 ?yge3 ?ygt3
      (case yga3 => k_is); (case yge3 => exact ⟨_, rfl⟩)
      case' ygt3 => refine' R.Gcs.cons ?yga4 ?yge4 ?ygt4
      (case yga4 => k_is); (case yge4 => exact ⟨_, rfl⟩)
      case' ygt4 => refine' R.Gcs.cons ?yga5 ?yge5 ?ygt5
      (case yga5 => k_is); (case yge5 => exact ⟨_, rfl⟩)
      case' ygt5 => refine' R.Gcs.cons ?yga6 ?yge6 ?ygt6
      (case yga6 => k_is); (case yge6 => exact ⟨_, rfl⟩)
      case' ygt6 => refine' R.Gcs.cons ?yga7 ?yge7 ?ygt7
      (case yga7 => k_is); (case yge7 => exact ⟨_, rfl⟩)
      case' ygt7 => refine' R.Gcs.cons ?yga8 ?yge8 ?ygt8
      (case yga8 => k_is); (case yge8 => exact ⟨_, rfl⟩)
      case' ygt8 => refine' R.Gcs.cons ?yga9 ?yge9 ?ygt9
      (case yga9 => k_is); (case yge9 => exact ⟨_, rfl⟩)
      (case ygt9 => exact R.Gcs.nil)
    case ycls =>
      refine' R.Clss.cons ⟨?ycnm0, ?ycpg0, ?ychd0, ?ycpo0, ?ycsa0, ?ycat0, ?ycha0, ?ychn0, ?ychtk0, ?ychm0, ?yckd0, ?ycmt0, ?ycini0⟩ ?ycr0
      (case ycnm0 => k_is); (case ycpg0 => k_is); (case ychd0 => k_is); (case ycpo0 => k_is); (case ycsa0 => k_is)
      (case ycat0 => exact List.forall_mem_nil _)
      (case ycha0 => k_is); (case ychn0 => k_is); (case ychtk0 => k_is); (case ychm0 => k_is)
      (case yckd0 => refine' List.forall_mem_cons.mpr ⟨?_, List.forall_mem_cons.mpr ⟨?_, List.forall_mem_cons.mpr ⟨?_, List.forall_mem_cons.mpr ⟨?_, List.forall_mem_cons.mpr ⟨?_, List.forall_mem_cons.mpr ⟨?_, List.forall_mem_cons.mpr ⟨?_, List.forall_mem_nil _⟩⟩⟩⟩⟩⟩⟩ <;> kit_is)
      (case ycmt0 => exact List.forall_mem_nil _)
      (case ycini0 => exact fun _ hf => by cases hf)
      case' ycr0 => refine' R.Clss.cons ⟨?ycnm1, ?ycpg1, ?ychd1, ?ycpo1, ?ycsa1, ?ycat1, ?ycha1, ?ychn1, ?ychtk1, ?ychm1, ?yckd1, ?ycmt1, ?ycini1⟩ ?ycr1
      (case ycnm1 => k_is); (case ycpg1 => k_is); (case ychd1 => k_is); (case ycpo1 => k_is); (case ycsa1 => k_is)
      (case ycat1 => refine' List.forall_mem_cons.mpr ⟨?_, List.forall_mem_nil _⟩ <;> k_is)
      (case ycha1 => k_is); (case ychn1 => k_is); (case ychtk1 => k_is); (case ychm1 => k_is)
      (case yckd1 => refine' List.forall_mem_cons.mpr ⟨?_, List.forall_mem_cons.mpr ⟨?_, List.forall_mem_cons.mpr ⟨?_, List.forall_mem_cons.mpr ⟨?_, List.forall_mem_cons.mpr ⟨?_, List.forall_mem_cons.mpr ⟨?_, List.forall_mem_cons.mpr ⟨?_, List.forall_mem_nil _⟩⟩⟩⟩⟩⟩⟩ <;> kit_is)
      (case ycmt1 => refine' List.forall_mem_cons.mpr ⟨⟨_, rfl, ?_, ?_, ?_⟩, List.forall_mem_nil _⟩ <;> k_is)
      (case ycini1 => intro f hf; cases hf; refine' ⟨_, rfl, ?_, ?_, ?_, ?_⟩ <;> k_is)
      case' ycr1 => refine' R.Clss.cons ⟨?ycnm2, ?ycpg2, ?ychd2, ?ycpo2, ?ycsa2, ?ycat2, ?ycha2, ?ychn2, ?ychtk2, ?ychm2, ?yckd2, ?ycmt2, ?ycini2⟩ ?ycr2
      (case ycnm2 => k_is); (case ycpg2 => k_is); (case ychd2 => k_is); (case ycpo2 => k_is); (case ycsa2 => k_is)
      (case ycat2 => refine' List.forall_mem_cons.mpr ⟨?_, List.forall_mem_cons.mpr ⟨?_, List.forall_mem_nil _⟩⟩ <;> k_is)
      (case ycha2 => k_is); (case ychn2 => k_is); (case ychtk2 => k_is); (case ychm2 => k_is)
      (case yckd2 => refine' List.forall_mem_cons.mpr ⟨?_, List.forall_mem_cons.mpr ⟨?_, List.forall_mem_cons.mpr ⟨?_, List.forall_mem_cons.mpr ⟨?_, List.forall_mem_cons.mpr ⟨?_, List.forall_mem_cons.mpr ⟨?_, List.forall_mem_cons.mpr ⟨?_, List.forall_mem_nil _⟩⟩⟩⟩⟩⟩⟩ <;> kit_is)
      (case ycmt2 => refine' List.forall_mem_cons.mpr ⟨⟨_, rfl, ?_, ?_, ?_⟩, List.forall_mem_nil _⟩ <;> k_is)
      (case ycini2 => intro f hf; cases hf; refine' ⟨_, rfl, ?_, ?_, ?_, ?_⟩ <;> k_is)
      case' ycr2 => refine' R.Clss.cons ⟨?ycnm3, ?ycpg3, ?ychd3, ?ycpo3, ?ycsa3, ?ycat3, ?ycha3, ?ychn3, ?ychtk3, ?ychm3, ?yckd3, ?ycmt3, ?ycini3⟩ ?ycr3
      (case ycnm3 => k_is); (case ycpg3 => k_is); (case ychd3 => k_is); (case ycpo3 => k_is); (case ycsa3 => k_is)
      (case ycat3 => exact List.forall_mem_nil _)
      (case ycha3 => k_is); (case ychn3 => k_is); (case ychtk3 => k_is); (case ychm3 => k_is)
      (case yckd3 => refine' List.forall_mem_cons.mpr ⟨?_, List.forall_mem_cons.mpr ⟨?_, List.forall_mem_cons.mpr ⟨?_, List.forall_mem_cons.mpr ⟨?_, List.forall_mem_cons.mpr ⟨?_, List.forall_mem_cons.mpr ⟨?_, List.forall_mem_cons.mpr ⟨?_, List.forall_mem_nil _⟩⟩⟩⟩⟩⟩⟩ <;> kit_is)
      (case ycmt3 => exact List.forall_mem_nil _)
      (case ycini3 => exact fun _ hf => by cases hf)
      case' ycr3 => refine' R.Clss.cons ⟨?ycnm4, ?ycpg4, ?ychd4, ?ycpo4, ?ycsa4, ?ycat4, ?ycha4, ?ychn4, ?ychtk4, ?ychm4, ?yckd4, ?ycmt4, ?ycini4⟩ ?ycr4
      (case ycnm4 => k_is); (case ycpg4 => k_is); (case ychd4 => k_is); (case ycpo4 => k_is); (case ycsa4 => k_is)
      (case ycat4 => exact List.forall_mem_nil _)
      (case ycha4 => k_is); (case ychn4 => k_is); (case ychtk4 => k_is); (case ychm4 => k_is)
      (case yckd4 => refine' List.forall_mem_cons.mpr ⟨?_, List.forall_mem_cons.mpr ⟨?_, List.forall_mem_cons.mpr ⟨?_, List.forall_mem_cons.mpr ⟨?_, List.forall_mem_cons.mpr ⟨?_, List.forall_mem_cons.mpr ⟨?_, List.forall_mem_cons.mpr ⟨?_, List.forall_mem_nil _⟩⟩⟩⟩⟩⟩⟩ <;> kit_is)
      (case ycmt4 => exact List.forall_mem_nil _)
      (case ycini4 => exact fun _ hf => by cases hf)
      (case ycr4 => exact R.Clss.nil)
    case ykts =>
      intro c k i C D h1 h2 h3
      match c, k with
      | 0, 0 => cases h1; cases h2; cases h3; show PySem.W.kitOne _ _ _ = some true; kit_is
      | 0, 1 => cases h1; cases h2; cases h3; show PySem.W.kitOne _ _ _ = some false; kit_is
      | 0, 2 => cases h1; cases h2; cases h3; show PySem.W.kitOne _ _ _ = some false; kit_is
      | 0, 3 => cases h1; cases h2; cases h3; show PySem.W.kitOne _ _ _ = some false; kit_is
      | 0, 4 => cases h1; cases h2; cases h3; show PySem.W.kitOne _ _ _ = some false; kit_is
      | 0, k + 5 => simp at h3
      | 1, 0 => cases h1; cases h2; cases h3; show PySem.W.kitOne _ _ _ = some true; kit_is
      | 1, 1 => cases h1; cases h2; cases h3; show PySem.W.kitOne _ _ _ = some true; kit_is
      | 1, 2 => cases h1; cases h2; cases h3; show PySem.W.kitOne _ _ _ = some false; kit_is
      | 1, 3 => cases h1; cases h2; cases h3; show PySem.W.kitOne _ _ _ = some false; kit_is
      | 1, 4 => cases h1; cases h2; cases h3; show PySem.W.kitOne _ _ _ = some false; kit_is
      | 1, k + 5 => simp at h3
      | 2, 0 => cases h1; cases h2; cases h3; show PySem.W.kitOne _ _ _ = some true; kit_is
      | 2, 1 => cases h1; cases h2; cases h3; show PySem.W.kitOne _ _ _ = some false; kit_is
      | 2, 2 => cases h1; cases h2; cases h3; show PySem.W.kitOne _ _ _ = some true; kit_is
      | 2, 3 => cases h1; cases h2; cases h3; show PySem.W.kitOne _ _ _ = some false; kit_is
      | 2, 4 => cases h1; cases h2; cases h3; show PySem.W.kitOne _ _ _ = some false; kit_is
      | 2, k + 5 => simp at h3
      | 3, 0 => cases h1; cases h2; cases h3; show PySem.W.kitOne _ _ _ = some true; kit_is
      | 3, 1 => cases h1; cases h2; cases h3; show PySem.W.kitOne _ _ _ = some false; kit_is
      | 3, 2 => cases h1; cases h2; cases h3; show PySem.W.kitOne _ _ _ = some false; kit_is
      | 3, 3 => cases h1; cases h2; cases h3; show PySem.W.kitOne _ _ _ = some true; kit_is
      | 3, 4 => cases h1; cases h2; cases h3; show PySem.W.kitOne _ _ _ = some false; kit_is
      | 3, k + 5 => simp at h3
      | 4, 0 => cases h1; cases h2; cases h3; show PySem.W.kitOne _ _ _ = some true; kit_is
      | 4, 1 => cases h1; cases h2; cases h3; show PySem.W.kitOne _ _ _ = some false; kit_is
      | 4, 2 => cases h1; cases h2; cases h3; show PySem.W.kitOne _ _ _ = some false; kit_is
      | 4, 3 => cases h1; cases h2; cases h3; show PySem.W.kitOne _ _ _ = some false; kit_is
      | 4, 4 => cases h1; cases h2; cases h3; show PySem.W.kitOne _ _ _ = some true; kit_is
      | 4, k + 5 => simp at h3
      | c + 5, _ => simp at h2

