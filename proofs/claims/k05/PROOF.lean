import PyProof.Rows.All
import Wide.All
import OpenK.AllK
import Wide.FinOn
import Lean
import PyProof.EqAt
import PyProof.EqKinds
import PyProof.TupleCall
import PySem.Challenge.RW_notekeep_k05_no_name
import PyProof.ExcInit
import PyProof.ExcClass2
import PyProof.ExcClass3
import PyProof.InstStoreFacts
import PyProof.InstLoad
import PyProof.ExcArgsOwn
import PyProof.ExcAttrAll.ValueError
import PyProof.ExcBaseAll.ValueError
import OpenK.Peek
import KE.KIsAll
set_option Elab.async false
set_option linter.all false
set_option maxRecDepth 100000
/-! THE HAND LAYER, for ints, bools, texts, own classes, LISTS and tuples (index, slices, in, append, pop ..), calls, loops. Paste it whole ahead of your own text; what your proof does not reach may be deleted. -/
namespace L2
open PySem PySem.Spec PyProof.Rows

/-- a key: an int or a str -/
abbrev Key := Sum Int Str
def keyIs : Key → Value → Bool
  | .inl k, v => Value.isInt k v
  | .inr x, v => Value.isStrOf x v
def keyH (w : World) : Key → Int
  | .inl k => hashInt k
  | .inr x => hashStr w x
theorem keyIs_shape : ∀ {k : Key} {v : Value}, keyIs k v = true → (∃ i t, k = Sum.inl i ∧ v = Value.int i t) ∨ (∃ x t, k = Sum.inr x ∧ v = Value.str x t)
  | .inl i, v, h => by
    obtain ⟨t, e⟩ := Value.isInt_shape (k := i) (v := v) h
    exact .inl ⟨i, t, rfl, e⟩
  | .inr x, v, h => by
    obtain ⟨t, e⟩ := Value.isStrOf_shape (x := x) (v := v) h
    exact .inr ⟨x, t, rfl, e⟩
theorem keyIs_int (i : Int) (t : Tok) : keyIs (.inl i) (.int i t) = true := by simp [keyIs, Value.isInt]
theorem keyIs_str (x : Str) (t : Tok) : keyIs (.inr x) (.str x t) = true := by simp [keyIs, Value.isStrOf]
theorem key_ll (a b : Int) : decide ((Sum.inl a : Key) = Sum.inl b) = (a == b) := by
  by_cases e : a = b
  · subst e; simp
  · have h : ¬ (Sum.inl a : Key) = Sum.inl b := fun q => e (Sum.inl.inj q)
    rw [decide_eq_false h]
    exact (beq_eq_false_iff_ne.mpr e).symm
theorem key_rr (a b : Str) : decide ((Sum.inr a : Key) = Sum.inr b) = decide (a = b) := by
  by_cases e : a = b
  · subst e; simp
  · have h : ¬ (Sum.inr a : Key) = Sum.inr b := fun q => e (Sum.inr.inj q)
    rw [decide_eq_false h, decide_eq_false e]
theorem key_lr (a : Int) (b : Str) : decide ((Sum.inl a : Key) = Sum.inr b) = false := decide_eq_false (fun q => nomatch q)
theorem key_rl (a : Str) (b : Int) : decide ((Sum.inr a : Key) = Sum.inl b) = false := decide_eq_false (fun q => nomatch q)

def mixKind (prog : Program) (w : World) : PySem.KeyKind prog w Key where
  is := keyIs
  hash := keyH w
  inj := fun v a b ha hb => by
    rcases keyIs_shape ha with ⟨i, t, rfl, rfl⟩ | ⟨x, t, rfl, rfl⟩
    · rcases keyIs_shape hb with ⟨j, u, rfl, e⟩ | ⟨y, u, rfl, e⟩
      · injection e with e1 _; rw [e1]
      · exact nomatch e
    · rcases keyIs_shape hb with ⟨j, u, rfl, e⟩ | ⟨y, u, rfl, e⟩
      · exact nomatch e
      · injection e with e1 _; rw [e1]
  byValue := fun k v h => by
    rcases keyIs_shape h with ⟨i, t, rfl, rfl⟩ | ⟨x, t, rfl, rfl⟩ <;> rfl
  pyHash := fun hv h => by
    rcases keyIs_shape hv with ⟨i, t, rfl, rfl⟩ | ⟨x, t, rfl, rfl⟩
    · exact wpAny_pyHash_int h
    · exact wpAny_pyHash_str h
  eqBool := fun hu hv h => by
    rcases keyIs_shape hu with ⟨i, t, rfl, rfl⟩ | ⟨x, t, rfl, rfl⟩
    · rcases keyIs_shape hv with ⟨j, u, rfl, rfl⟩ | ⟨y, u, rfl, rfl⟩
      · rw [key_ll] at h; exact wpAny_eqBool_int h
      · rw [key_lr] at h; exact SeqAt.EqAt.int_str i t y u _ _ _ _ h
    · rcases keyIs_shape hv with ⟨j, u, rfl, rfl⟩ | ⟨y, u, rfl, rfl⟩
      · rw [key_rl] at h; exact SeqAt.EqAt.str_int x t j u _ _ _ _ h
      · rw [key_rr] at h; exact wpAny_eqBool_str h
  «strs» := fun k x t v h => by
    rcases keyIs_shape h with ⟨i, u, rfl, e⟩ | ⟨y, u, rfl, e⟩
    · exact nomatch e
    · injection e with e1 _
      subst e1
      cases v <;> rfl

theorem mixKind_int (prog : Program) (w : World) (i : Int) (t : Tok) : (mixKind prog w).is (.inl i) (.int i t) = true := keyIs_int i t
theorem mixKind_str (prog : Program) (w : World) (x : Str) (t : Tok) : (mixKind prog w).is (.inr x) (.str x t) = true := keyIs_str x t
end L2

namespace L2
open PySem PySem.Spec PyProof.Rows

/-- a value, without the heap -/
inductive V where
  | non | bl (b : Bool) | int (i : Int) | str (x : Str) | byt (b : Array UInt8) | flt (b : UInt64) | ref (a : Addr) | ty (n : String)
  deriving DecidableEq

def RelV : V → Value → Prop
  | .non, u => u = Value.none
  | .bl b, u => u = Value.bool b
  | .int i, u => ∃ t, u = Value.int i t
  | .str x, u => ∃ t, u = Value.str x t
  | .byt b, u => ∃ t, u = Value.bytes b t
  | .flt b, u => ∃ t, u = Value.float b t
  | .ref a, u => u = Value.ref a
  | .ty n, u => u = Value.type n

abbrev Vals : List V → List Value → Prop := Paired RelV
theorem Vals.length {xs : List V} {us : List Value} (r : Vals xs us) : xs.length = us.length := Paired.length r
theorem Vals.get : ∀ {xs : List V} {us : List Value} {i : Nat} {x : V}, Vals xs us → xs[i]? = some x → ∃ u, us[i]? = some u ∧ RelV x u
  | _, _, _, _, .nil, e => by simp at e
  | _, _, 0, _, .cons r _, e => by simp at e; subst e; exact ⟨_, rfl, r⟩
  | _, _, i + 1, x, .cons _ t, e => by
    obtain ⟨u, h1, h2⟩ := Vals.get (i := i) (x := x) t (by simpa using e)
    exact ⟨u, by simpa using h1, h2⟩
theorem Vals.set {x : V} {u : Value} (r : RelV x u) : ∀ {xs : List V} {us : List Value} (i : Nat), Vals xs us → Vals (xs.set i x) (us.set i u)
  | _, _, _, .nil => .nil
  | _, _, 0, .cons _ t => .cons r t
  | _, _, i + 1, .cons q t => .cons q (Vals.set r i t)
theorem Vals.append : ∀ {xs ys : List V} {us ws : List Value}, Vals xs us → Vals ys ws → Vals (xs ++ ys) (us ++ ws)
  | _, _, _, _, .nil, s => s
  | _, _, _, _, .cons r t, s => .cons r (Vals.append t s)
theorem Vals.take : ∀ {xs : List V} {us : List Value} (n : Nat), Vals xs us → Vals (xs.take n) (us.take n)
  | _, _, 0, _ => .nil
  | _, _, _ + 1, .nil => .nil
  | _, _, n + 1, .cons r t => .cons r (Vals.take n t)
theorem Vals.drop : ∀ {xs : List V} {us : List Value} (n : Nat), Vals xs us → Vals (xs.drop n) (us.drop n)
  | _, _, 0, r => r
  | _, _, _ + 1, .nil => .nil
  | _, _, n + 1, .cons _ t => Vals.drop n t
theorem Vals.none_of : ∀ {xs : List V} {us : List Value} {i : Nat}, Vals xs us → xs[i]? = none → us[i]? = none := fun {xs us i} r e => by
  have h1 := r.length
  have h2 : xs.length ≤ i := List.getElem?_eq_none_iff.mp e
  exact List.getElem?_eq_none_iff.mpr (by omega)

def RelO : Option V → Option Value → Prop
  | some v, some u => RelV v u
  | none, none => True
  | _, _ => False
def KV {κ : Type} : List (κ × V) → List (κ × Value) → Prop := Paired fun (p : κ × V) (q : κ × Value) => p.1 = q.1 ∧ RelV p.2 q.2

/-- a key of a dict (00_mix): an int or a text -/
def kV : Key → V
  | .inl i => .int i
  | .inr x => .str x

/-- what stands at a tracked address -/
inductive HO where
  /-- a list -/
  | lst (xs : List V)
  /-- a tuple (never changes) -/
  | tup (xs : List V)
  /-- a dict whose keys are ints and texts; one whose keys are tuples of ints and texts (the empty one is both) -/
  | dK (kvs : List (Key × V)) | dT (kvs : List (List Key × V))
  /-- a set of ints: its members, its size -/
  | set (S : Int → Bool) (n : Nat)
  /-- an instance of the class at C, its dict at dx, its attributes -/
  | ins (C dx : Addr) (fs : List (Str × V))
  /-- the dict of the instance at x -/
  | own (x : Addr)
  /-- the dict of an exception -/
  | xd (fs : List (Str × V))
  /-- a bound method, f of x -/
  | met (f x : Addr)
  /-- a range object lo, lo + 1, .. below hi -/
  | rng (lo hi : Int)
  /-- a thing that is known to the object (the script; a dict while a loop walks it): read, never written while it is so -/
  | frz (o : Obj) (u : HO)
  /-- a code object's table -/
  | tbl (ps : Array Value)
  /-- any other thing, by what is true of its one object (a def of one's own: SetO a S n := HO.ext fun h => ..) -/
  | ext (φ : Heap → Prop)

abbrev Hp := Addr → Option HO
def upd (H : Hp) (a : Addr) (o : HO) : Hp := fun b => if b = a then some o else H b
theorem upd_same {H : Hp} {a : Addr} {o : HO} : upd H a o a = some o := by unfold upd; rw [if_pos rfl]
theorem upd_ne {H : Hp} {a b : Addr} {o : HO} (h : b ≠ a) : upd H a o b = H b := by unfold upd; rw [if_neg h]
/-- two objects of different content stand apart -/
theorem ne_of {H : Hp} {a b : Addr} {o u : HO} (h : H a = some o) (h' : H b = some u) (d : o ≠ u) : a ≠ b := by
  intro e; subst e; rw [h] at h'; exact d (Option.some.inj h')
theorem ne_of_none {H : Hp} {a b : Addr} {o : HO} (h : H a = some o) (h' : H b = none) : a ≠ b := by
  intro e; subst e; rw [h] at h'; cases h'

section
variable (P : Program) (w : World)
def ObjOk (H : Hp) (h : Heap) (a : Addr) : HO → Prop
  | .lst xs => xs.length ≤ sizeLine ∧ ∃ (its : List Value) (n : Nat), Vals xs its ∧ h.get? a = some { cls := .type "list", data := .seq its.toArray n }
  | .tup xs => xs.length ≤ sizeLine ∧ ∃ its : List Value, Vals xs its ∧ IsTup h a its.toArray
  | .dK kvs => kvs.length ≤ sizeLine ∧ (a == sysModules) = false ∧ ∃ vs, KV kvs vs ∧ h.DictOf (mixKind P w) a vs
  | .dT kvs => kvs.length ≤ sizeLine ∧ (a == sysModules) = false ∧ ∃ xs : List (List Key × Addr × Value),
      Paired (fun (p : List Key × V) (q : List Key × Addr × Value) => p.1 = q.1 ∧ H q.2.1 = some (.tup (p.1.map kV)) ∧ RelV p.2 q.2.2) kvs xs ∧
      ∃ o es ep, h.get? a = some o ∧ o.ExactDict ∧ o.data = .dict es ep ∧ es.toList = xs.map (entryOfKey (tupleKind (mixKind P w))) ∧ (xs.map (·.1)).Nodup
  | .set S n => h.SetOf (intKind P w) a S n
  | .ins C dx fs => H dx = some (.own a) ∧ fs.length ≤ 1000 ∧ dx ≠ a ∧ h.get? a = some (PySem.W.instObj C dx) ∧
      ∃ mA, h.Ns1 dx mA ∧ (∀ f, RelO (fs.lookup f) (mA f)) ∧ PySem.Within mA (fs.map (·.1))
  | .own _ => ∃ o, h.get? a = some o
  | .xd fs => ∃ mA, h.Ns1 a mA ∧ ∀ f, RelO (fs.lookup f) (mA f)
  | .rng lo hi => ∃ t u v, h.get? a = some { cls := .type "range", data := .fields #[.int lo t, .int hi u, .int 1 v] }
  | .frz o u => h.get? a = some o ∧ ObjOk H h a u
  | .tbl ps => h.get? a = some { cls := .none, data := .fields ps }
  | .met f x => h.get? a = some (PySem.W.methodObj (.ref f) (.ref x))
  | .ext φ => φ h ∧ (∃ o, h.get? a = some o) ∧ ∀ h1 h2 : Heap, φ h1 → (∀ o, h1.get? a = some o → h2.get? a = some o) → φ h2
/-- the abstract heap is held -/
def HOk (H : Hp) (h : Heap) : Prop := ∀ a o, H a = some o → ObjOk P w H h a o
end

section
variable {P : Program} {w : World} {H H' : Hp} {h h' : Heap} {a : Addr} {o : HO}
theorem ObjOk.lt (x : ObjOk P w H h a o) : a < h.objs.size := by
  cases o with
  | lst xs => obtain ⟨_, _, _, _, e⟩ := x; exact Heap.lt_size e
  | tup xs => obtain ⟨_, _, _, p⟩ := x; exact p.lt
  | dK kvs => obtain ⟨_, _, _, _, o, _, _, e, _⟩ := x; exact Heap.lt_size e
  | dT kvs => obtain ⟨_, _, _, _, o, _, _, e, _⟩ := x; exact Heap.lt_size e
  | set S n => obtain ⟨o, _, _, _, e, _⟩ := x; exact Heap.lt_size e
  | ins C dx fs => obtain ⟨_, _, _, e, _⟩ := x; exact Heap.lt_size e
  | own y => obtain ⟨_, e⟩ := x; exact Heap.lt_size e
  | xd fs => obtain ⟨_, ⟨_, _, _, e, _⟩, _⟩ := x; exact Heap.lt_size e
  | rng lo hi => obtain ⟨_, _, _, e⟩ := x; exact Heap.lt_size e
  | frz ob u => obtain ⟨e, _⟩ := x; exact Heap.lt_size e
  | tbl ps => exact Heap.lt_size (show h.get? a = some _ from x)
  | met f y => exact Heap.lt_size (show h.get? a = some _ from x)
  | ext φ => obtain ⟨_, ⟨_, e⟩, _⟩ := x; exact Heap.lt_size e
theorem Paired.mapP {α β : Type} {F G : α → β → Prop} : ∀ {l₁ : List α} {l₂ : List β}, Paired F l₁ l₂ → (∀ a b, F a b → G a b) → Paired G l₁ l₂
  | _, _, .nil, _ => .nil
  | _, _, .cons r t, f => .cons (f _ _ r) (Paired.mapP t f)
/-- what an object's description leans on: its own object, its own dict, the tuples -/
theorem ObjOk.stay (x : ObjOk P w H h a o) (k : ∀ b u, (b = a ∨ H b = some (.own a)) → h.get? b = some u → h'.get? b = some u)
    (ho : ∀ b, H b = some (.own a) → H' b = some (.own a)) (ht : ∀ b xs, H b = some (.tup xs) → H' b = some (.tup xs)) : ObjOk P w H' h' a o := by
  induction o with
  | lst xs => obtain ⟨z, its, n, r, e⟩ := x; exact ⟨z, its, n, r, k _ _ (.inl rfl) e⟩
  | tup xs => obtain ⟨z, its, r, ob, e, c⟩ := x; exact ⟨z, its, r, ob, k _ _ (.inl rfl) e, c⟩
  | dK kvs => obtain ⟨z, y, vs, r, ob, es, ep, e, c⟩ := x; exact ⟨z, y, vs, r, ob, es, ep, k _ _ (.inl rfl) e, c⟩
  | dT kvs =>
    obtain ⟨z, y, xs, r, ob, es, ep, e, c⟩ := x
    exact ⟨z, y, xs, Paired.mapP r fun p q z => ⟨z.1, ht _ _ z.2.1, z.2.2⟩, ob, es, ep, k _ _ (.inl rfl) e, c⟩
  | set S n => obtain ⟨ob, es, ep, t, e, c⟩ := x; exact ⟨ob, es, ep, t, k _ _ (.inl rfl) e, c⟩
  | ins C dx fs =>
    obtain ⟨d, z, ne, e, mA, ⟨od, es, ep, e2, c⟩, r⟩ := x
    exact ⟨ho _ d, z, ne, k _ _ (.inl rfl) e, mA, ⟨od, es, ep, k _ _ (.inr d) e2, c⟩, r⟩
  | own y => obtain ⟨ob, e⟩ := x; exact ⟨ob, k _ _ (.inl rfl) e⟩
  | xd fs => obtain ⟨mA, ⟨od, es, ep, e, c⟩, r⟩ := x; exact ⟨mA, ⟨od, es, ep, k _ _ (.inl rfl) e, c⟩, r⟩
  | rng lo hi => obtain ⟨t, u, v, e⟩ := x; exact ⟨t, u, v, k _ _ (.inl rfl) e⟩
  | frz ob u ih => obtain ⟨e, q⟩ := x; exact ⟨k _ _ (.inl rfl) e, ih q⟩
  | tbl ps =>
    have e : h.get? a = some { cls := .none, data := .fields ps } := x
    show h'.get? a = some { cls := .none, data := .fields ps }
    exact k a _ (.inl rfl) e
  | met f y =>
    have e : h.get? a = some (PySem.W.methodObj (.ref f) (.ref y)) := x
    show h'.get? a = some (PySem.W.methodObj (.ref f) (.ref y))
    exact k a _ (.inl rfl) e
  | ext φ => obtain ⟨p, ⟨o, e⟩, st⟩ := x; exact ⟨st _ _ p fun o q => k _ _ (.inl rfl) q, ⟨o, k _ _ (.inl rfl) e⟩, st⟩
theorem HOk.lt (x : HOk P w H h) (e : H a = some o) : a < h.objs.size := (x a o e).lt
theorem HOk.fresh (x : HOk P w H h) (e : h.objs.size ≤ a) : H a = none := by
  cases q : H a with
  | none => rfl
  | some u => exact absurd (Nat.lt_of_lt_of_le (x.lt q) e) (Nat.lt_irrefl _)
/-- every object of the heap is kept -/
theorem HOk.kept (x : HOk P w H h) (k : ∀ b u, h.get? b = some u → h'.get? b = some u) : HOk P w H h' := fun a o e =>
  (x a o e).stay (fun b u _ q => k b u q) (fun _ q => q) fun _ _ q => q
/-- a new object is laid and tracked -/
theorem HOk.laid (x : HOk P w H h) (k : ∀ b u, h.get? b = some u → h'.get? b = some u) (hp : h.objs.size ≤ a) (new : ObjOk P w (upd H a o) h' a o) : HOk P w (upd H a o) h' := fun b u e => by
  have hn := x.fresh hp
  by_cases hb : b = a
  · subst hb; rw [upd_same] at e; cases e; exact new
  · rw [upd_ne hb] at e
    exact (x b u e).stay (fun c v _ q => k c v q) (fun c q => by rw [upd_ne (ne_of_none q hn)]; exact q) fun c xs q => by rw [upd_ne (ne_of_none q hn)]; exact q
end

/-- what may be read as u: it is u, or a known u -/
def Rd (H : Hp) (a : Addr) (u : HO) : Prop := H a = some u ∨ ∃ o, H a = some (.frz o u)
theorem Rd.of {H : Hp} {a : Addr} {u : HO} (h : H a = some u) : Rd H a u := .inl h
theorem Rd.ok {P : Program} {w : World} {H : Hp} {h : Heap} {a : Addr} {u : HO} (r : Rd H a u) (x : HOk P w H h) : ObjOk P w H h a u := by
  rcases r with r | ⟨o, r⟩
  · exact x a u r
  · obtain ⟨_, q⟩ := x a _ r
    exact q
/-- what may be written -/
def Mut : Option HO → Prop
  | some (.lst _) => True
  | some (.dK _) => True
  | some (.dT _) => True
  | some (.set _ _) => True
  | some (.ins _ _ _) => True
  | some (.ext _) => True
  | _ => False
section
variable {P : Program} {w : World} {H : Hp} {h h' : Heap} {x e : Addr} {o' : HO}
/-- the object at e is changed: x itself, or the dict of the instance x -/
theorem HOk.write (ok : HOk P w H h) (mu : Mut (H x)) (he : e = x ∨ H e = some (.own x)) (k : ∀ b u, b ≠ e → h.get? b = some u → h'.get? b = some u) (heo : ∃ u, h'.get? e = some u)
    (new : ObjOk P w (upd H x o') h' x o') : HOk P w (upd H x o') h' := fun b u q => by
  have nown : ∀ c y, H c = some (.own y) → c ≠ x := fun c y r z => by subst z; rw [r] at mu; exact mu
  have ntup : ∀ c xs, H c = some (.tup xs) → c ≠ x := fun c xs r z => by subst z; rw [r] at mu; exact mu
  by_cases hb : b = x
  · subst hb; rw [upd_same] at q; cases q; exact new
  · rw [upd_ne hb] at q
    by_cases hbe : b = e
    · have q' : H b = some (.own x) := by
        rcases he with z | z
        · exact absurd (hbe.trans z) hb
        · rw [hbe]; exact z
      rw [q] at q'; cases q'
      obtain ⟨v, hv⟩ := heo
      exact ⟨v, by rw [hbe]; exact hv⟩
    · refine (ok b u q).stay (fun c v hc r => k c v ?_ r) (fun c r => by rw [upd_ne (nown c b r)]; exact r) fun c xs r => by rw [upd_ne (ntup c xs r)]; exact r
      rcases hc with rfl | hc
      · exact hbe
      · rintro rfl
        rcases he with z | z
        · exact nown c b hc z
        · rw [hc] at z; cases z; exact hb rfl
end

/-! ### kept unless tracked; of the frames at fs (the callers') the slots may change (an exception that passes writes there); of the records at ex (iterators) nothing is said -/
structure Un (fs ex : List Addr) (H H' : Hp) (h h' : Heap) : Prop where
  keep : ∀ b o, h.get? b = some o → H b = none → b ∉ fs → b ∉ ex → h'.get? b = some o
  slot : ∀ b o, h.get? b = some o → H b = none → b ∈ fs → b ∉ ex → ∃ sl, h'.get? b = some { o with slots := sl }
  free : ∀ b o, h.get? b = some o → H b = none → b ∉ ex → H' b = none
  there : ∀ b o, h.get? b = some o → b ∉ ex → ∃ o', h'.get? b = some o'
  tups : ∀ b xs, H b = some (.tup xs) → H' b = some (.tup xs)
  frzs : ∀ b o u, H b = some (.frz o u) → H' b = some (.frz o u)
  tbls : ∀ b ps, H b = some (.tbl ps) → ∃ more, H' b = some (.tbl (ps ++ more))
section
variable {fs fs' ex ex' : List Addr} {H H1 H2 : Hp} {h h1 h2 h' : Heap} {a x e : Addr} {o : HO}
theorem Un.any (u : Un fs ex H H1 h h1) {b : Addr} {ob : Obj} (q : h.get? b = some ob) (n : H b = none) (hx : b ∉ ex) : ∃ sl, h1.get? b = some { ob with slots := sl } := by
  by_cases hb : b ∈ fs
  · exact u.slot b ob q n hb hx
  · exact ⟨ob.slots, u.keep b ob q n hb hx⟩
theorem Un.trans (a : Un fs ex H H1 h h1) (b : Un fs ex H1 H2 h1 h2) : Un fs ex H H2 h h2 where
  keep := fun c ob q n hc hx => b.keep c ob (a.keep c ob q n hc hx) (a.free c ob q n hx) hc hx
  slot := fun c ob q n hc hx => by
    obtain ⟨sl, e1⟩ := a.slot c ob q n hc hx
    obtain ⟨sl', e2⟩ := b.slot c _ e1 (a.free c ob q n hx) hc hx
    exact ⟨sl', e2⟩
  free := fun c ob q n hx => by
    obtain ⟨o', e1⟩ := a.there c ob q hx
    exact b.free c o' e1 (a.free c ob q n hx) hx
  there := fun c ob q hx => by
    obtain ⟨o', e1⟩ := a.there c ob q hx
    exact b.there c o' e1 hx
  tups := fun c xs q => b.tups c xs (a.tups c xs q)
  frzs := fun c ob xs q => b.frzs c ob xs (a.frzs c ob xs q)
  tbls := fun c ps q => by
    obtain ⟨m1, e1⟩ := a.tbls c ps q
    obtain ⟨m2, e2⟩ := b.tbls c _ e1
    exact ⟨m1 ++ m2, by rw [e2, Array.append_assoc]⟩
theorem Un.kept (k : ∀ b u, h.get? b = some u → h'.get? b = some u) : Un fs ex H H h h' :=
  ⟨fun b ob q _ _ _ => k b ob q, fun b ob q _ _ _ => ⟨ob.slots, k b ob q⟩, fun _ _ _ n _ => n, fun b ob q _ => ⟨ob, k b ob q⟩, fun _ _ q => q, fun _ _ _ q => q, fun _ ps q => ⟨#[], by rw [q]; simp⟩⟩
theorem Un.refl : Un fs ex H H h h := Un.kept fun _ _ q => q
theorem Un.laid (k : ∀ b u, h.get? b = some u → h'.get? b = some u) (hp : h.objs.size ≤ a) (hn : H a = none) : Un fs ex H (upd H a o) h h' where
  keep := fun b u q _ _ _ => k b u q
  slot := fun b u q _ _ _ => ⟨u.slots, k b u q⟩
  free := fun b u q n _ => by rw [upd_ne (Nat.ne_of_lt (Nat.lt_of_lt_of_le (Heap.lt_size q) hp))]; exact n
  there := fun b u q _ => ⟨u, k b u q⟩
  tups := fun b xs q => by rw [upd_ne (ne_of_none q hn)]; exact q
  frzs := fun b u xs q => by rw [upd_ne (ne_of_none q hn)]; exact q
  tbls := fun b ps q => ⟨#[], by rw [upd_ne (ne_of_none q hn), q]; simp⟩
theorem Un.write (mu : Mut (H x)) (he : e = x ∨ H e = some (.own x)) (k : ∀ b u, b ≠ e → h.get? b = some u → h'.get? b = some u) (heo : ∃ u, h'.get? e = some u) : Un fs ex H (upd H x o) h h' := by
  have hx : ∀ b, H b = none → b ≠ x := fun b n z => by subst z; rw [n] at mu; exact mu
  have hb : ∀ b, H b = none → b ≠ e := fun b n z => by
    subst z
    rcases he with r | r
    · exact hx b n r
    · rw [n] at r; cases r
  have hm : ∀ b u, H b = some u → ¬ Mut (some u) → b ≠ x := fun b u q nm z => by subst z; rw [q] at mu; exact nm mu
  refine ⟨fun b u q n _ _ => k b u (hb b n) q, fun b u q n _ _ => ⟨u.slots, k b u (hb b n) q⟩, fun b u q n _ => by rw [upd_ne (hx b n)]; exact n, fun b u q _ => ?_,
    fun b xs q => by rw [upd_ne (hm b _ q fun z => z)]; exact q, fun b u xs q => by rw [upd_ne (hm b _ q fun z => z)]; exact q, fun b ps q => ⟨#[], by rw [upd_ne (hm b _ q fun z => z), q]; simp⟩⟩
  by_cases hbe : b = e
  · subst hbe; exact heo
  · exact ⟨u, k b u hbe q⟩
theorem Un.mono (u : Un fs ex H H1 h h1) (hs : ∀ b ∈ fs, b ∈ fs') (hx : ∀ b ∈ ex, b ∈ ex') : Un fs' ex' H H1 h h1 :=
  ⟨fun b ob q n hb he => u.keep b ob q n (fun z => hb (hs b z)) fun z => he (hx b z), fun _ _ q n _ he => u.any q n fun z => he (hx _ z), fun b ob q n he => u.free b ob q n fun z => he (hx b z), fun b ob q he => u.there b ob q fun z => he (hx b z), u.tups, u.frzs, u.tbls⟩
end

/-! ### the heap without what is tracked -/
def trk (h : Heap) (H : Hp) : List Addr := (List.range h.objs.size).filter fun a => (H a).isSome
def hidT (h : Heap) (H : Hp) : Heap := PySem.W.hideAll h (trk h H)
theorem hidT_size (h : Heap) (H : Hp) : (hidT h H).objs.size = h.objs.size := PySem.W.hideAll_size _ _
theorem hidT_get {h : Heap} {H : Hp} {b : Addr} {o : Obj} (e : h.get? b = some o) (n : H b = none) : (hidT h H).get? b = some o :=
  PySem.W.hideAll_get _ e fun hm => by
    have q : (H b).isSome = true := (List.mem_filter.mp hm).2
    rw [n] at q; simp at q
theorem of_hidT {h : Heap} {H : Hp} {b : Addr} {o : Obj} (e : (hidT h H).get? b = some o) : h.get? b = some o ∧ H b = none := by
  have e' : h.get? b = some o := PySem.W.of_hideAll (trk h H) e
  refine ⟨e', ?_⟩
  cases q : H b with
  | none => rfl
  | some x =>
    have hm : b ∈ trk h H := List.mem_filter.mpr ⟨List.mem_range.mpr (Heap.lt_size e'), by simp [q]⟩
    have z : (hidT h H).get? b = none := PySem.W.hideAll_none (trk h H) hm
    rw [z] at e; cases e

/-! ### OpenK's ledger, filled with every new object but one -/
def allNews (g h : Heap) (L : Addr) : List (Addr × Obj) := (List.range h.objs.size).filterMap fun a => if a = L ∨ (g.get? a).isSome = true then none else (h.get? a).map fun o => (a, o)
def rest (g h : Heap) (L d : Addr) : List (Addr × Obj) := (allNews g h L).filter fun p => decide (p.1 ≠ d)
end L2

namespace L2
open PySem PySem.Spec PyProof.Rows

/-- the module's facts, over the base: the heap at the law's entry without what is tracked there -/
structure Mod (K : PySem.W.Frag) (mg : Str → Option Value) (base : Heap) : Prop where
  kin : K.In base
  glob : base.Ns mainGlobals mg
  blt : ∃ mb, base.Ns builtinsNs mb ∧ ∀ x : Str, x ≠ "__name__" → mb x = bootBuiltins x
  nolimit : base.NoLimit

/-- the context: a def's body (or a comprehension's block) running. base: fixed through the whole law; s₀, H₀: the entry; outer: the frames whose slots others may change (a def's callers); stack: all frames that run;
   ex: iterators that were made ahead of the entry and are walked here (a comprehension's); fn: the names whose cells were made at the entry (a def: all; a comprehension's block: its own); calm: not within an except suite; pn: pins that every state bears; xe: what is wanted of an exception that leaves the code -/
structure Cx where
  prog : Program
  w : World
  K : PySem.W.Frag
  mg : Str → Option Value
  base : Heap
  A : Around
  N : List Str
  s₀ : Shared
  H₀ : Hp
  env : Env
  outer : List Env
  stack : List Env
  ex : List Addr
  fn : Str → Bool
  calm : Bool
  pn : List (Addr × Obj)
  xe : Value → Shared → Prop
/-- the callers' frames -/
def frs (l : List Env) : List Addr := l.filterMap (·.frame)
abbrev Cx.fs (X : Cx) : List Addr := frs X.outer

def Vis (sc : Scope) (x : Str) : Prop := sc.names.lookup x = some .local ∨ sc.names.lookup x = some .cell ∨ sc.names.lookup x = some .free
def Loc (sc : Scope) (x : Str) : Prop := sc.names.lookup x = some .local ∨ sc.names.lookup x = some .cell
def Look (env : Env) (h : Heap) (m : Str → Option Value) (x : Str) (u : Value) : Prop :=
  (env.kindOf x = some .local ∧ m x = some u) ∨ ((env.kindOf x = some .cell ∨ env.kindOf x = some .free) ∧ ∃ c, env.cells.lookup x = some c ∧ h.IsCell c (some u))

structure Cx.Ok (X : Cx) : Prop where
  mod : Mod X.K X.mg X.base
  kind : X.env.scope.kind = .function
  glob : X.env.globals = mainGlobals
  blt : X.env.builtins = builtinsNs
  above : X.s₀.heap.objs.size ≤ X.env.locals
  inj : ∀ x y c, X.env.cells.lookup x = some c → X.env.cells.lookup y = some c → x = y
  has : ∀ x, (X.env.kindOf x = some .cell ∨ X.env.kindOf x = some .free) → ∃ c, X.env.cells.lookup x = some c
  cab : ∀ x c, X.fn x = true → X.env.cells.lookup x = some c → X.s₀.heap.objs.size ≤ c
  hd : X.calm = true → X.A.handled = none
  frames : X.A.frames = some X.stack
  stk : X.stack = X.outer ∨ (X.stack = X.env :: X.outer ∧ X.env.frame = some X.env.locals)
  exf : ∀ b ∈ X.ex, b ≠ X.env.locals ∧ ∀ x c, X.env.cells.lookup x = some c → c ≠ b
  bs : ∀ b o, X.base.get? b = some o → X.s₀.heap.get? b = some o ∧ X.H₀ b = none
  bsz : X.base.objs.size ≤ X.s₀.heap.objs.size
  noex : ∀ b o, X.base.get? b = some o → b ∉ X.ex
  exfs : ∀ b ∈ X.ex, b ∉ X.fs
  funs : X.s₀.heap.FunFrames X.base X.outer
  frf : ∀ b ∈ X.fs, X.H₀ b = none

structure Inv (X : Cx) (pins : List (Addr × Obj)) (σ : List (Option V)) (H : Hp) (s : Shared) : Prop where
  ok : X.Ok
  os : s.os = X.s₀.os
  bare : AllBare s.gens
  base : Un X.fs X.ex X.H₀ H X.s₀.heap s.heap
  loc : ∃ m, s.heap.Ns X.env.locals m ∧ ∀ (i : Nat) (x : Str) (v : V), X.N[i]? = some x → σ[i]? = some (some v) → Vis X.env.scope x → ∃ u, RelV v u ∧ Look X.env s.heap m x u
  cell : ∀ x c, X.env.cells.lookup x = some c → ∃ v, s.heap.IsCell c v
  free : H X.env.locals = none
  freeC : ∀ x c, X.env.cells.lookup x = some c → H c = none
  pin : ∀ p ∈ X.pn ++ pins, s.heap.get? p.1 = some p.2 ∧ H p.1 = none ∧ p.1 ≠ X.env.locals ∧ p.1 ∉ X.fs ∧ ∀ v, p.2.data ≠ .cell v
  hok : HOk X.prog X.w H s.heap
  len : σ.length = X.N.length

section
variable {X : Cx} {pins : List (Addr × Obj)} {σ : List (Option V)} {H H' : Hp} {s : Shared} {h' : Heap}

theorem Cx.Ok.nofr (ok : X.Ok) {b : Addr} {o : Obj} (e : X.base.get? b = some o) : b ∉ X.fs := fun hb => by
  have := (ok.funs.mem hb).1
  rw [e] at this; cases this
theorem Inv.bs (I : Inv X pins σ H s) : ∀ b o, X.base.get? b = some o → s.heap.get? b = some o ∧ H b = none := fun b o e =>
  ⟨I.base.keep b o (I.ok.bs b o e).1 (I.ok.bs b o e).2 (I.ok.nofr e) (I.ok.noex b o e), I.base.free b o (I.ok.bs b o e).1 (I.ok.bs b o e).2 (I.ok.noex b o e)⟩
theorem Inv.bk (I : Inv X pins σ H s) : ∀ b o, X.base.get? b = some o → s.heap.get? b = some o := fun b o e => (I.bs b o e).1
theorem Inv.mod (I : Inv X pins σ H s) : Mod X.K X.mg X.base := I.ok.mod
theorem Inv.kIn (I : Inv X pins σ H s) : X.K.In s.heap := I.ok.mod.kin.keeps I.bk
theorem Inv.nolimit (I : Inv X pins σ H s) : s.heap.NoLimit := I.ok.mod.nolimit.keeps I.bk
/-- the frame over the base: for OpenK's rules (K.In X.base is I.mod.kin) -/
theorem Inv.fr (I : Inv X pins σ H s) : ∃ m, Fr X.base X.env.locals s.heap m :=
  let ⟨m, hn, _⟩ := I.loc
  ⟨m, hn, I.bk, Nat.le_trans I.ok.bsz I.ok.above⟩
theorem Inv.lt (I : Inv X pins σ H s) : X.env.locals < s.heap.objs.size := let ⟨_, hn, _⟩ := I.loc; hn.lt
theorem Inv.sz (I : Inv X pins σ H s) : X.s₀.heap.objs.size ≤ s.heap.objs.size := Nat.le_trans I.ok.above (Nat.le_of_lt I.lt)
theorem Inv.nofs (I : Inv X pins σ H s) {a : Addr} (h : s.heap.objs.size ≤ a) : a ∉ X.fs := fun hb => by
  obtain ⟨_, o, ho, _⟩ := I.ok.funs.mem hb
  exact absurd (Nat.lt_of_lt_of_le (Heap.lt_size ho) (Nat.le_trans I.sz h)) (Nat.lt_irrefl _)
theorem Inv.cne (I : Inv X pins σ H s) : ∀ x c, X.env.cells.lookup x = some c → c ≠ X.env.locals := fun x c e z => by
  obtain ⟨v, o, ho, hd⟩ := I.cell x c e
  obtain ⟨m, ⟨o', es, ep, ho', hd', _⟩, _⟩ := I.loc
  rw [z, ho'] at ho; cases ho; rw [hd'] at hd; cases hd
theorem Inv.funs (I : Inv X pins σ H s) : s.heap.FunFrames X.base X.outer := by
  have all : ∀ (l : List Env), (∀ b ∈ frs l, b ∈ X.fs) → X.s₀.heap.FunFrames X.base l → s.heap.FunFrames X.base l := by
    intro l
    induction l with
    | nil => intro _ _; trivial
    | cons env r ih =>
      intro hs hl
      obtain ⟨hk, ⟨L, o, hf, hn, ho, hd⟩, hr⟩ := hl
      have hL : L ∈ X.fs := hs L (by unfold frs; rw [List.filterMap_cons, hf]; exact List.mem_cons_self)
      obtain ⟨sl, e⟩ := I.base.slot L o ho (I.ok.frf L hL) hL fun z => I.ok.exfs L z hL
      exact ⟨hk, ⟨L, _, hf, hn, e, hd⟩, ih (fun b hb => hs b (by unfold frs; rw [List.filterMap_cons, hf]; exact List.mem_cons_of_mem _ hb)) hr⟩
  exact all X.outer (fun _ hb => hb) I.ok.funs

/-- the frames that run, for a call -/
theorem Inv.stack (I : Inv X pins σ H s) : s.heap.FunFrames X.base X.stack := by
  rcases I.ok.stk with e | ⟨e, hf⟩
  · rw [e]; exact I.funs
  · rw [e]
    obtain ⟨m, hn, _⟩ := I.loc
    refine .cons (by rw [I.ok.kind]; decide) hf hn ?_ I.funs
    exact Heap.get?_none_of_le (Nat.le_trans I.ok.bsz I.ok.above)
theorem Inv.stkSub (I : Inv X pins σ H s) : ∀ b ∈ frs X.stack, b ∈ X.env.locals :: X.fs := fun b hb => by
  rcases I.ok.stk with e | ⟨e, hf⟩
  · rw [e] at hb; exact List.mem_cons_of_mem _ hb
  · rw [e] at hb
    unfold frs at hb
    rw [List.filterMap_cons, hf] at hb
    exact hb
theorem Inv.stkFree (I : Inv X pins σ H s) : ∀ b ∈ frs X.stack, H b = none := fun b hb => by
  rcases List.mem_cons.mp (I.stkSub b hb) with e | hb
  · rw [e]; exact I.free
  · obtain ⟨_, o, ho, _⟩ := I.ok.funs.mem hb
    exact I.base.free b o ho (I.ok.frf b hb) fun z => I.ok.exfs b z hb

/-- THE STEP: the untracked objects but the frame and the records at ch are kept (the callers' frames up to slots), the frame's map is kept, the new abstract heap is held -/
theorem Inv.step {g' : Array GenState} {t' : Nat} {d' : Drawn} {ch : List Addr} (I : Inv X pins σ H s)
    (hch : ∀ b ∈ ch, (b ∈ X.ex ∨ X.s₀.heap.objs.size ≤ b) ∧ b ≠ X.env.locals ∧ (∀ x c, X.env.cells.lookup x = some c → c ≠ b) ∧ ∀ p ∈ X.pn ++ pins, p.1 ≠ b)
    (keep : ∀ b o, b ≠ X.env.locals → b ∉ X.fs → b ∉ ch → s.heap.get? b = some o → H b = none → h'.get? b = some o)
    (slot : ∀ b o, b ≠ X.env.locals → b ∈ X.fs → b ∉ ch → s.heap.get? b = some o → H b = none → ∃ sl, h'.get? b = some { o with slots := sl }) (free : ∀ b o, b ∉ ch → s.heap.get? b = some o → H b = none → H' b = none)
    (there : ∀ b o, b ∉ ch → s.heap.get? b = some o → ∃ o', h'.get? b = some o')
    (tups : ∀ b xs, H b = some (.tup xs) → H' b = some (.tup xs)) (frzs : ∀ b o u, H b = some (.frz o u) → H' b = some (.frz o u)) (tbls : ∀ b ps, H b = some (.tbl ps) → ∃ more, H' b = some (.tbl (ps ++ more)))
    (ns : ∀ m, s.heap.Ns X.env.locals m → h'.Ns X.env.locals m) (hok : HOk X.prog X.w H' h') (hg : AllBare g') :
    Inv X pins σ H' { s with heap := h', gens := g', drawn := d', toks := t' } := by
  have neL : ∀ b o, X.s₀.heap.get? b = some o → b ≠ X.env.locals := fun b o e => Nat.ne_of_lt (Nat.lt_of_lt_of_le (Heap.lt_size e) I.ok.above)
  have neC : ∀ b o, X.s₀.heap.get? b = some o → b ∉ X.ex → b ∉ ch := fun b o e hx hb => by
    rcases (hch b hb).1 with z | z
    · exact hx z
    · exact absurd (Nat.lt_of_lt_of_le (Heap.lt_size e) z) (Nat.lt_irrefl _)
  have cellK : ∀ x c, X.env.cells.lookup x = some c → ∀ v, s.heap.IsCell c v → h'.IsCell c v := fun x c e v ⟨o, ho, hd⟩ => by
    have nch : c ∉ ch := fun z => (hch c z).2.2.1 x c e rfl
    by_cases hc : c ∈ X.fs
    · obtain ⟨sl, q⟩ := slot c o (I.cne x c e) hc nch ho (I.freeC x c e)
      exact ⟨_, q, hd⟩
    · exact ⟨o, keep c o (I.cne x c e) hc nch ho (I.freeC x c e), hd⟩
  refine ⟨I.ok, I.os, hg, ⟨fun b o e n hb hx => ?_, fun b o e n hb hx => ?_, fun b o e n hx => ?_, fun b o e hx => ?_, fun b xs e => tups b xs (I.base.tups b xs e), fun b o xs e => frzs b o xs (I.base.frzs b o xs e), fun b ps e => ?_⟩, ?_, fun x c e => ?_, ?_, fun x c e => ?_, fun p hp => ?_, hok, I.len⟩
  · exact keep b o (neL b o e) hb (neC b o e hx) (I.base.keep b o e n hb hx) (I.base.free b o e n hx)
  · obtain ⟨sl, e1⟩ := I.base.slot b o e n hb hx
    obtain ⟨sl', e2⟩ := slot b _ (neL b o e) hb (neC b o e hx) e1 (I.base.free b o e n hx)
    exact ⟨sl', e2⟩
  · obtain ⟨o', e1⟩ := I.base.there b o e hx
    exact free b o' (neC b o e hx) e1 (I.base.free b o e n hx)
  · obtain ⟨o', e1⟩ := I.base.there b o e hx
    exact there b o' (neC b o e hx) e1
  · obtain ⟨m1, e1⟩ := I.base.tbls b ps e
    obtain ⟨m2, e2⟩ := tbls b _ e1
    exact ⟨m1 ++ m2, by rw [e2, Array.append_assoc]⟩
  · obtain ⟨m, hn, hl⟩ := I.loc
    refine ⟨m, ns m hn, fun i x v e1 e2 e3 => ?_⟩
    obtain ⟨u, r, l⟩ := hl i x v e1 e2 e3
    refine ⟨u, r, ?_⟩
    rcases l with l | ⟨k, c, e, z⟩
    · exact .inl l
    · exact .inr ⟨k, c, e, cellK x c e _ z⟩
  · obtain ⟨v, z⟩ := I.cell x c e
    exact ⟨v, cellK x c e v z⟩
  · obtain ⟨m, ⟨o, _, _, ho, _⟩, _⟩ := I.loc
    exact free _ o (fun z => (hch _ z).2.1 rfl) ho I.free
  · obtain ⟨v, o, ho, hd⟩ := I.cell x c e
    exact free c o (fun z => (hch c z).2.2.1 x c e rfl) ho (I.freeC x c e)
  · obtain ⟨e, n, ne, nf, d⟩ := I.pin p hp
    have nch : p.1 ∉ ch := fun z => (hch p.1 z).2.2.2 p hp rfl
    exact ⟨keep p.1 p.2 ne nf nch e n, free p.1 p.2 nch e n, ne, nf, d⟩
/-- .. where the frame's own object is kept too -/
theorem Inv.un {t' : Nat} (I : Inv X pins σ H s) (u : Un X.fs [] H H' s.heap h') (hok : HOk X.prog X.w H' h') : Inv X pins σ H' { s with heap := h', toks := t' } := by
  obtain ⟨m, ⟨o, es, ep, ho, r⟩, _⟩ := id I.loc
  obtain ⟨sl, hL⟩ := u.any ho I.free (by simp)
  exact I.step (g' := s.gens) (d' := s.drawn) (ch := []) (fun _ z => nomatch z) (fun b o _ hb _ e n => u.keep b o e n hb (by simp)) (fun b o _ hb _ e n => u.slot b o e n hb (by simp)) (fun b o _ e n => u.free b o e n (by simp)) (fun b o _ e => u.there b o e (by simp)) u.tups u.frzs u.tbls (fun m' hm => by
    obtain ⟨o', es', ep', ho', r'⟩ := hm
    rw [ho] at ho'; cases ho'
    exact ⟨_, es', ep', hL, r'⟩) hok I.bare
/-- behind a call (or a comprehension's block): the slots of this frame may have changed too, the records at ch may have turned -/
theorem Inv.call {g' : Array GenState} {t' : Nat} {d' : Drawn} {ch : List Addr} (I : Inv X pins σ H s) (u : Un (frs X.stack) ch H H' s.heap h') (hok : HOk X.prog X.w H' h') (hg : AllBare g')
    (hch : ∀ b ∈ ch, (b ∈ X.ex ∨ X.s₀.heap.objs.size ≤ b) ∧ b ≠ X.env.locals ∧ (∀ x c, X.env.cells.lookup x = some c → c ≠ b) ∧ ∀ p ∈ X.pn ++ pins, p.1 ≠ b) :
    Inv X pins σ H' { s with heap := h', gens := g', drawn := d', toks := t' } := by
  obtain ⟨m, ⟨o, es, ep, ho, r⟩, _⟩ := id I.loc
  obtain ⟨sl, hL⟩ := u.any ho I.free fun z => (hch _ z).2.1 rfl
  exact I.step (ch := ch) hch (fun b o hL hb hc e n => u.keep b o e n (fun z => (List.mem_cons.mp (I.stkSub b z)).elim hL hb) hc) (fun b o _ _ hc e n => u.any e n hc) (fun b o hc e n => u.free b o e n hc) (fun b o hc e => u.there b o e hc) u.tups u.frzs u.tbls (fun m' hm => by
    obtain ⟨o', es', ep', ho', r'⟩ := hm
    rw [ho] at ho'; cases ho'
    exact ⟨_, es', ep', hL, r'⟩) hok hg
/-- an untracked record of ours (an iterator) has turned -/
theorem Inv.turned {t' : Nat} {it : Addr} (I : Inv X pins σ H s) (k : ∀ b o, b ≠ it → s.heap.get? b = some o → h'.get? b = some o) (hn : H it = none) (hL : it ≠ X.env.locals)
    (h1 : it ∈ X.ex ∨ X.s₀.heap.objs.size ≤ it) (h2 : ∀ x c, X.env.cells.lookup x = some c → c ≠ it) (h3 : ∀ p ∈ X.pn ++ pins, p.1 ≠ it) : Inv X pins σ H { s with heap := h', toks := t' } := by
  have nit : ∀ b u, H b = some u → b ≠ it := fun b u e z => by rw [z, hn] at e; cases e
  refine I.step (g' := s.gens) (d' := s.drawn) (ch := [it]) (fun b hb => ?_) (fun b o _ _ hc e _ => k b o (fun z => hc (by simp [z])) e) (fun b o _ _ hc e _ => ⟨o.slots, k b o (fun z => hc (by simp [z])) e⟩) (fun _ _ _ _ n => n)
    (fun b o hc e => ⟨o, k b o (fun z => hc (by simp [z])) e⟩) (fun _ _ e => e) (fun _ _ _ e => e) (fun b ps e => ⟨#[], by rw [e]; simp⟩) (fun m hm => ?_) (fun b u e => ?_) I.bare
  · have e : b = it := by simpa using hb
    subst e
    exact ⟨h1, hL, h2, h3⟩
  · obtain ⟨o, es, ep, ho, r⟩ := hm
    exact ⟨o, es, ep, k _ o (Ne.symm hL) ho, r⟩
  · refine (I.hok b u e).stay (fun c v hc q => k c v ?_ q) (fun _ q => q) fun _ _ q => q
    rcases hc with z | z
    · rw [z]; exact nit b u e
    · exact nit c _ z
theorem Inv.tok (I : Inv X pins σ H s) (t : Nat) : Inv X pins σ H { s with toks := t } := I.un (h' := s.heap) (t' := t) Un.refl I.hok
/-- all objects kept -/
theorem Inv.kept {t' : Nat} (I : Inv X pins σ H s) (k : ∀ b u, s.heap.get? b = some u → h'.get? b = some u) : Inv X pins σ H { s with heap := h', toks := t' } := I.un (Un.kept k) (I.hok.kept k)
/-- a new object laid and tracked -/
theorem Inv.laid {a : Addr} {o : HO} {t' : Nat} (I : Inv X pins σ H s) (k : ∀ b u, s.heap.get? b = some u → h'.get? b = some u) (hp : s.heap.objs.size ≤ a) (new : ObjOk X.prog X.w (upd H a o) h' a o) :
    Inv X pins σ (upd H a o) { s with heap := h', toks := t' } := I.un (Un.laid k hp (I.hok.fresh hp)) (I.hok.laid k hp new)
/-- an object written -/
theorem Inv.write {x e : Addr} {o : HO} {t' : Nat} (I : Inv X pins σ H s) (mu : Mut (H x)) (he : e = x ∨ H e = some (.own x)) (k : ∀ b u, b ≠ e → s.heap.get? b = some u → h'.get? b = some u) (heo : ∃ u, h'.get? e = some u)
    (new : ObjOk X.prog X.w (upd H x o) h' x o) : Inv X pins σ (upd H x o) { s with heap := h', toks := t' } := I.un (Un.write mu he k heo) (I.hok.write mu he k heo new)
theorem Inv.pins_of {pins' : List (Addr × Obj)} (I : Inv X pins σ H s) (h : ∀ p ∈ pins', s.heap.get? p.1 = some p.2 ∧ H p.1 = none ∧ p.1 ≠ X.env.locals ∧ p.1 ∉ X.fs ∧ ∀ v, p.2.data ≠ .cell v) : Inv X pins' σ H s :=
  ⟨I.ok, I.os, I.bare, I.base, I.loc, I.cell, I.free, I.freeC, fun p hp => (List.mem_append.mp hp).elim (fun z => I.pin p (List.mem_append_left _ z)) (h p), I.hok, I.len⟩

theorem nodup_ix {N : List Str} (hN : N.Nodup) {i j : Nat} {x : Str} (a : N[i]? = some x) (b : N[j]? = some x) : i = j := by
  obtain ⟨h1, e1⟩ := List.getElem?_eq_some_iff.mp a
  obtain ⟨h2, e2⟩ := List.getElem?_eq_some_iff.mp b
  exact (List.getElem_inj hN).mp (e1.trans e2.symm)

/-- a name is stored; what changed -/
theorem store_ok2 {M : Model} {A : Around} {E : Value → Shared → Prop} {i : Nat} {x : Str} {v : V} {u : Value} {Q : Unit → Shared → Prop} (I : Inv X pins σ H s) (hN : X.N.Nodup) (hi : X.N[i]? = some x) (hx : Loc X.env.scope x) (r : RelV v u)
    (h : ∀ s', Inv X pins (σ.set i (some v)) H s' → (∃ a, Heap.SameBut a s.heap s'.heap ∧ (a = X.env.locals ∨ X.env.cells.lookup x = some a)) → Q () s') (hf : X.fn x = true ∨ X.env.scope.names.lookup x = some .local := by first | exact .inl rfl | exact .inr rfl | assumption) : wpAny M A (storeName X.env x u) Q E s := by
  obtain ⟨m, hn, hl⟩ := id I.loc
  have hcls : (X.env.scope.kind == .class || (X.env.scope.kind == .module && X.env.locals != X.env.globals)) = false := by rw [I.ok.kind]; rfl
  have hiσ : i < σ.length := by rw [I.len]; exact (List.getElem?_eq_some_iff.mp hi).1
  have cne := I.cne
  have tracked : ∀ {a : Addr} {h' : Heap}, (∃ o, s.heap.get? a = some o ∧ H a = none) → Heap.SameBut a s.heap h' → HOk X.prog X.w H h' := fun {a h'} ha hs b ob e => by
    obtain ⟨_, _, hfree⟩ := ha
    refine (I.hok b ob e).stay (fun c w' hc q => (hs.2 c ?_).trans q) (fun _ q => q) fun _ _ q => q
    rintro rfl
    rcases hc with rfl | hc
    · rw [hfree] at e; cases e
    · rw [hfree] at hc; cases hc
  rcases hx with hk | hk
  · refine wpAny_storeName_local hk hn (fun h' hn' hs => ?_) hcls
    obtain ⟨oL, _, _, hoL, _⟩ := id hn
    refine h _ ⟨I.ok, I.os, I.bare, ⟨fun b o e n hb hx => ?_, fun b o e n hb hx => ?_, I.base.free, fun b o e hx => ?_, I.base.tups, I.base.frzs, I.base.tbls⟩, ⟨_, hn', fun j y v' e1 e2 e3 => ?_⟩, fun y c e => ?_, I.free, I.freeC, fun p hp => ?_, tracked ⟨oL, hoL, I.free⟩ hs, by simpa using I.len⟩ ⟨_, hs, .inl rfl⟩
    · exact (hs.2 b (Nat.ne_of_lt (Nat.lt_of_lt_of_le (Heap.lt_size e) I.ok.above))).trans (I.base.keep b o e n hb hx)
    · obtain ⟨sl, e1⟩ := I.base.slot b o e n hb hx
      exact ⟨sl, (hs.2 b (Nat.ne_of_lt (Nat.lt_of_lt_of_le (Heap.lt_size e) I.ok.above))).trans e1⟩
    · obtain ⟨o', e1⟩ := I.base.there b o e hx
      exact ⟨o', (hs.2 b (Nat.ne_of_lt (Nat.lt_of_lt_of_le (Heap.lt_size e) I.ok.above))).trans e1⟩
    · by_cases hj : j = i
      · subst hj
        rw [hi] at e1; cases e1
        rw [List.getElem?_set_self hiσ] at e2
        cases e2
        exact ⟨u, r, .inl ⟨hk, by simp⟩⟩
      · rw [List.getElem?_set_ne (Ne.symm hj)] at e2
        obtain ⟨u', r', q⟩ := hl j y v' e1 e2 e3
        refine ⟨u', r', ?_⟩
        rcases q with ⟨k, e⟩ | ⟨k, c, e, z⟩
        · refine .inl ⟨k, ?_⟩
          have : y ≠ x := fun e => hj (nodup_ix hN e1 (e ▸ hi))
          simp [this, e]
        · exact .inr ⟨k, c, e, z.sameBut hs (cne y c e)⟩
    · obtain ⟨w', z⟩ := I.cell y c e
      exact ⟨w', z.sameBut hs (cne y c e)⟩
    · obtain ⟨e, n, ne, nf, d⟩ := I.pin p hp
      exact ⟨(hs.2 p.1 ne).trans e, n, ne, nf, d⟩
  · have hfn : X.fn x = true := by
      rcases hf with z | z
      · exact z
      · rw [z] at hk; cases hk
    obtain ⟨c, hc⟩ := I.ok.has x (.inl hk)
    obtain ⟨w', z⟩ := I.cell x c hc
    refine wpAny_storeName_cell I.ok.kind hk hc z (fun h' hc' hs => ?_)
    obtain ⟨oc, hoc, hocd⟩ := id z
    refine h { s with heap := h' } ⟨I.ok, I.os, I.bare, ⟨fun b o e n hb hx => ?_, fun b o e n hb hx => ?_, I.base.free, fun b o e hx => ?_, I.base.tups, I.base.frzs, I.base.tbls⟩, ⟨m, hn.sameBut hs (Ne.symm (cne x c hc)), fun j y v' e1 e2 e3 => ?_⟩, fun y c' e => ?_, I.free, I.freeC, fun p hp => ?_, tracked ⟨oc, hoc, I.freeC x c hc⟩ hs, by simpa using I.len⟩ ⟨c, hs, .inr hc⟩
    · exact (hs.2 b (Nat.ne_of_lt (Nat.lt_of_lt_of_le (Heap.lt_size e) (I.ok.cab x c hfn hc)))).trans (I.base.keep b o e n hb hx)
    · obtain ⟨sl, e1⟩ := I.base.slot b o e n hb hx
      exact ⟨sl, (hs.2 b (Nat.ne_of_lt (Nat.lt_of_lt_of_le (Heap.lt_size e) (I.ok.cab x c hfn hc)))).trans e1⟩
    · obtain ⟨o', e1⟩ := I.base.there b o e hx
      exact ⟨o', (hs.2 b (Nat.ne_of_lt (Nat.lt_of_lt_of_le (Heap.lt_size e) (I.ok.cab x c hfn hc)))).trans e1⟩
    · by_cases hj : j = i
      · subst hj
        rw [hi] at e1; cases e1
        rw [List.getElem?_set_self hiσ] at e2
        cases e2
        exact ⟨u, r, .inr ⟨.inl hk, c, hc, hc'⟩⟩
      · rw [List.getElem?_set_ne (Ne.symm hj)] at e2
        obtain ⟨u', r', q⟩ := hl j y v' e1 e2 e3
        refine ⟨u', r', ?_⟩
        rcases q with q | ⟨k, c', e, z'⟩
        · exact .inl q
        · refine .inr ⟨k, c', e, z'.sameBut hs ?_⟩
          rintro rfl
          exact hj (nodup_ix hN e1 (I.ok.inj _ _ _ e hc ▸ hi))
    · by_cases hcc : c' = c
      · subst hcc; exact ⟨_, hc'⟩
      · obtain ⟨w2, z2⟩ := I.cell y c' e
        exact ⟨w2, z2.sameBut hs hcc⟩
    · obtain ⟨e, n, ne, nf, d⟩ := I.pin p hp
      refine ⟨(hs.2 p.1 ?_).trans e, n, ne, nf, d⟩
      intro q
      rw [q, hoc] at e
      have q' : oc = p.2 := Option.some.inj e
      exact d w' (by rw [← q']; exact hocd)
theorem store_ok {M : Model} {A : Around} {E : Value → Shared → Prop} {i : Nat} {x : Str} {v : V} {u : Value} {Q : Unit → Shared → Prop} (I : Inv X pins σ H s) (hN : X.N.Nodup) (hi : X.N[i]? = some x) (hx : Loc X.env.scope x) (r : RelV v u)
    (h : ∀ s', Inv X pins (σ.set i (some v)) H s' → Q () s') (hf : X.fn x = true ∨ X.env.scope.names.lookup x = some .local := by first | exact .inl rfl | exact .inr rfl | assumption) : wpAny M A (storeName X.env x u) Q E s :=
  store_ok2 I hN hi hx r (fun s' I' _ => h s' I') hf
/-- behind a call or a block, the state as it is -/
theorem Inv.call' {s' : Shared} {ch : List Addr} (I : Inv X pins σ H s) (ho : s'.os = s.os) (u : Un (frs X.stack) ch H H' s.heap s'.heap) (hok : HOk X.prog X.w H' s'.heap) (hg : AllBare s'.gens)
    (hch : ∀ b ∈ ch, (b ∈ X.ex ∨ X.s₀.heap.objs.size ≤ b) ∧ b ≠ X.env.locals ∧ (∀ x c, X.env.cells.lookup x = some c → c ≠ b) ∧ ∀ p ∈ X.pn ++ pins, p.1 ≠ b) : Inv X pins σ H' s' := by
  obtain ⟨h', g', d', t', o'⟩ := s'
  have e : o' = s.os := ho
  subst e
  exact I.call (g' := g') (t' := t') (d' := d') u hok hg hch
end

/-! ### the judgements -/
/-- an exception: its class, its own dict's address (where it has one), the abstract heap behind it -/
abbrev XK := Value → Option Addr → Hp → Prop
abbrev St := List (Option V)
abbrev VK := V → Hp → Prop
/-- an expression's reading; a test's; an argument list's -/
abbrev TE := St → Hp → VK → Prop
abbrev TT := St → Hp → (Bool → Hp → Prop) → Prop
abbrev TA := St → Hp → (List V → Hp → Prop) → Prop
/-- what is wanted behind a statement -/
structure Ends where
  nx : St → Hp → Prop
  rt : VK
  bk : St → Hp → Prop := fun _ _ => False
  ct : St → Hp → Prop := fun _ _ => False
abbrev TS := Ends → St → Hp → Prop

def EP (X : Cx) (pins : List (Addr × Obj)) (σ : St) (Q : VK) (u : Value) (s' : Shared) : Prop := ∃ v H', Inv X pins σ H' s' ∧ RelV v u ∧ Q v H'
def TP (X : Cx) (pins : List (Addr × Obj)) (σ : St) (Q : Bool → Hp → Prop) (b : Bool) (s' : Shared) : Prop := ∃ H', Inv X pins σ H' s' ∧ Q b H'
def AP (X : Cx) (pins : List (Addr × Obj)) (σ : St) (Q : List V → Hp → Prop) (us : List Value) (s' : Shared) : Prop := ∃ vs H', Inv X pins σ H' s' ∧ Vals vs us ∧ Q vs H'
def SP (X : Cx) (pins : List (Addr × Obj)) (D : Ends) (f : Flow) (s' : Shared) : Prop :=
  match f with
  | .next => ∃ σ' H', Inv X pins σ' H' s' ∧ D.nx σ' H'
  | .brk => ∃ σ' H', Inv X pins σ' H' s' ∧ D.bk σ' H'
  | .cont => ∃ σ' H', Inv X pins σ' H' s' ∧ D.ct σ' H'
  | .ret u => ∃ v σ' H', Inv X pins σ' H' s' ∧ RelV v u ∧ D.rt v H'

def PE (X : Cx) (e : Expr) (t : TE) : Prop :=
  ∀ (pins : List (Addr × Obj)) (s : Shared) (σ : St) (H : Hp) (Q : VK), Inv X pins σ H s → t σ H Q → wpAny (model X.prog X.w) X.A (eval e X.env) (EP X pins σ Q) X.xe s
def PT (X : Cx) (e : Expr) (t : TT) : Prop :=
  ∀ (pins : List (Addr × Obj)) (s : Shared) (σ : St) (H : Hp) (Q : Bool → Hp → Prop), Inv X pins σ H s → t σ H Q → wpAny (model X.prog X.w) X.A (isTrue e X.env (eval e X.env)) (TP X pins σ Q) X.xe s
/-- an argument list (no star), from the left -/
def PA (X : Cx) (es : List Expr) (t : TA) : Prop :=
  ∀ (pos : Pos) (pins : List (Addr × Obj)) (s : Shared) (σ : St) (H : Hp) (Q : List V → Hp → Prop), Inv X pins σ H s → t σ H Q → wpAny (model X.prog X.w) X.A (spliced (backTo pos (starEach es X.env))) (AP X pins σ Q) X.xe s
def PSs (X : Cx) (st : List Stmt) (t : TS) : Prop :=
  ∀ (pins : List (Addr × Obj)) (s : Shared) (σ : St) (H : Hp) (D : Ends), Inv X pins σ H s → t D σ H → wpAny (model X.prog X.w) X.A (execs st X.env) (SP X pins D) X.xe s
/-- weaken the end -/
theorem thn {α : Type} {t : Sem α} {Q Q' : α → Shared → Prop} {M : Model} {A : Around} {E : Value → Shared → Prop} {s : Shared} (h : wpAny M A t Q E s) (hQ : ∀ a s, Q a s → Q' a s) : wpAny M A t Q' E s := wpAny_mono h hQ fun _ _ x => x
end L2

namespace L2
open PySem PySem.Spec PyProof.Rows
section
variable {X : Cx}

/-! ### names and constants -/
def tVar (i : Nat) : TE := fun σ H Q => ∃ v, σ[i]? = some (some v) ∧ Q v H
def tC (v : V) : TE := fun _ H Q => Q v H
theorem pe_var {i : Nat} {x : Str} {pos : Pos} (hN : X.N[i]? = some x) (hv : Vis X.env.scope x) (hd : (x == ("__debug__" : Str)) = false := by decide) (hcd : (x == ("__classdict__" : Str)) = false := by decide) : PE X (.Name x pos) (tVar i) := by
  intro pins s σ H Q I h
  obtain ⟨v, e, h⟩ := h
  obtain ⟨m, hn, hl⟩ := I.loc
  obtain ⟨u, r, l⟩ := hl i x v hN e hv
  have fin : EP X pins σ Q u s := ⟨v, H, I, r, h⟩
  rcases l with ⟨hk, hm⟩ | ⟨hk, c, hc, hcell⟩
  · exact wpAny_Name (wpAny_loadName_local I.ok.kind hk hn hm fin) hd
  · rcases hk with hk | hk
    · exact wpAny_Name (wpAny_loadName_cell I.ok.kind hk hc hcell fin) hd
    · exact wpAny_Name (wpAny_loadName_free I.ok.kind hk hc hcell fin hcd) hd
theorem pe_int {i j pos} : PE X (.Constant (.int i) j pos) (tC (.int i)) := fun _ _ _ H _ I h => wpAny_Constant_int ⟨.int i, H, I.tok _, ⟨_, rfl⟩, h⟩
theorem pe_bl {b j pos} : PE X (.Constant (.bool b) j pos) (tC (.bl b)) := fun _ _ _ H _ I h => Constant_bool ⟨.bl b, H, I, rfl, h⟩
theorem pe_non {j pos} : PE X (.Constant .none j pos) (tC .non) := fun _ _ _ H _ I h => Constant_none ⟨.non, H, I, rfl, h⟩
theorem pe_str {x j pos} : PE X (.Constant (.str x) j pos) (tC (.str x)) := fun _ _ _ H _ I h => Calls.Constant_str ⟨.str x, H, I.tok _, ⟨_, rfl⟩, h⟩

/-- a global name of the def -/
def Gl (X : Cx) (x : Str) : Prop := X.env.kindOf x = some .globalImplicit
theorem ld_glob {E : Value → Shared → Prop} {pins : List (Addr × Obj)} {s : Shared} {σ : St} {H : Hp} {x : Str} {u : Value} {pos : Pos} {Q : Value → Shared → Prop} (I : Inv X pins σ H s) (hg : Gl X x) (hm : X.mg x = some u) (h : Q u s)
    (hd : (x == ("__debug__" : Str)) = false := by decide) : wpAny (model X.prog X.w) X.A (eval (.Name x pos) X.env) Q E s :=
  Calls.Name_function_global I.ok.kind hg (Calls.loadGlobal_global (by rw [I.ok.glob]; exact I.mod.glob.keeps I.bk) hm h) hd
theorem ld_blt {E : Value → Shared → Prop} {pins : List (Addr × Obj)} {s : Shared} {σ : St} {H : Hp} {x : Str} {u : Value} {pos : Pos} {Q : Value → Shared → Prop} (I : Inv X pins σ H s) (hg : Gl X x) (hm : X.mg x = none) (hv : bootBuiltins x = some u) (h : Q u s)
    (hn : x ≠ "__name__" := by decide) (hd : (x == ("__debug__" : Str)) = false := by decide) : wpAny (model X.prog X.w) X.A (eval (.Name x pos) X.env) Q E s := by
  obtain ⟨mb, h1, h2⟩ := I.mod.blt
  exact Calls.Name_function_global I.ok.kind hg (Calls.loadGlobal_builtin (by rw [I.ok.glob]; exact I.mod.glob.keeps I.bk) hm (by rw [I.ok.blt]; exact h1.keeps I.bk) ((h2 x hn).trans hv) h) hd
/-- a module's constant, a class, a function, as a value -/
theorem pe_glob {x : Str} {v : V} {u : Value} {pos : Pos} (hg : Gl X x) (hm : X.mg x = some u) (r : RelV v u) (hd : (x == ("__debug__" : Str)) = false := by decide) : PE X (.Name x pos) (tC v) :=
  fun _ _ _ H _ I h => ld_glob I hg hm ⟨v, H, I, r, h⟩ hd
theorem pe_bltn {x : Str} {v : V} {u : Value} {pos : Pos} (hg : Gl X x) (hm : X.mg x = none) (hv : bootBuiltins x = some u) (r : RelV v u) (hn : x ≠ "__name__" := by decide) (hd : (x == ("__debug__" : Str)) = false := by decide) : PE X (.Name x pos) (tC v) :=
  fun _ _ _ H _ I h => ld_blt I hg hm hv ⟨v, H, I, r, h⟩ hn hd

/-! ### arithmetic -/
variable {a b : Expr} {ta tb : TE} {pos : Pos}
/-! ### comparisons -/
/-! ### and, or, not -/
variable {tA tB' : TT} {rest : List Expr}
end
end L2

namespace L2
open PySem PySem.Spec PyProof.Rows

/-! ### a list, a tuple that is read: tracked, frozen, or an object of the module -/
def SqL (K : PySem.W.Frag) (H : Hp) (a : Addr) (xs : List V) : Prop :=
  Rd H a (.lst xs) ∨
    ∃ (o : Obj) (its : Array Value) (n : Nat), K.lookup a = some o ∧ o.cls = .type "list" ∧ o.dict = none ∧ o.data = .seq its n ∧ its.size ≤ sizeLine ∧ Vals xs its.toList
def SqT (K : PySem.W.Frag) (H : Hp) (a : Addr) (xs : List V) : Prop :=
  Rd H a (.tup xs) ∨
    ∃ (o : Obj) (its : Array Value) (n : Nat), K.lookup a = some o ∧ o.cls = .type "tuple" ∧ o.data = .seq its n ∧ its.size ≤ sizeLine ∧ Vals xs its.toList
def absV : Value → Option V
  | .none => some .non
  | .bool b => some (.bl b)
  | .int i _ => some (.int i)
  | .str x _ => some (.str x)
  | .bytes b _ => some (.byt b)
  | .float b _ => some (.flt b)
  | .ref a => some (.ref a)
  | .type n => some (.ty n)
  | _ => none
theorem RelV.abs {x : V} {u : Value} (r : RelV x u) : absV u = some x := by
  cases x with
  | non => cases r; rfl
  | bl _ => cases r; rfl
  | int _ => obtain ⟨t, rfl⟩ := r; rfl
  | str _ => obtain ⟨t, rfl⟩ := r; rfl
  | byt _ => obtain ⟨t, rfl⟩ := r; rfl
  | flt _ => obtain ⟨t, rfl⟩ := r; rfl
  | ref _ => cases r; rfl
  | ty _ => cases r; rfl
theorem RelV.inj {x y : V} {u : Value} (r : RelV x u) (q : RelV y u) : x = y := Option.some.inj (r.abs.symm.trans q.abs)
theorem Vals.inj : ∀ {xs ys : List V} {us : List Value}, Vals xs us → Vals ys us → xs = ys
  | _, _, _, .nil, .nil => rfl
  | _, _, _, .cons r t, .cons r' t' => by rw [r.inj r', Vals.inj t t']
section
variable {X : Cx} {pins : List (Addr × Obj)} {σ : St} {H : Hp} {s : Shared} {a : Addr} {xs ys : List V}
theorem SqL.of {K : PySem.W.Frag} (h : H a = some (.lst xs)) : SqL K H a xs := .inl (.inl h)
theorem SqT.of {K : PySem.W.Frag} (h : H a = some (.tup xs)) : SqT K H a xs := .inl (.inl h)
theorem Inv.list (I : Inv X pins σ H s) (h : SqL X.K H a xs) : ∃ its : List Value, Vals xs its ∧ PlainL s.heap a its.toArray ∧ xs.length ≤ sizeLine := by
  rcases h with h | ⟨o, its, n, hk, hc, hd, hs, hz, r⟩
  · obtain ⟨z, its, n, r, e⟩ := h.ok I.hok
    exact ⟨its, r, ⟨_, n, e, rfl, rfl, rfl⟩, z⟩
  · refine ⟨its.toList, r, ⟨o, n, I.kIn a o hk, hc, hd, by simpa using hs⟩, ?_⟩
    have e := r.length
    simp only [Array.length_toList] at e
    omega
theorem Inv.tuple (I : Inv X pins σ H s) (h : SqT X.K H a xs) : ∃ its : List Value, Vals xs its ∧ IsTup s.heap a its.toArray ∧ xs.length ≤ sizeLine := by
  rcases h with h | ⟨o, its, n, hk, hc, hs, hz, r⟩
  · obtain ⟨z, its, r, p⟩ := h.ok I.hok
    exact ⟨its, r, p, z⟩
  · refine ⟨its.toList, r, ⟨o, I.kIn a o hk, hc, n, by simpa using hs⟩, ?_⟩
    have e := r.length
    simp only [Array.length_toList] at e
    omega
theorem Inv.list_inj (I : Inv X pins σ H s) (h : SqL X.K H a xs) (h' : SqL X.K H a ys) : xs = ys := by
  obtain ⟨its, r, ⟨o, n, e, _, _, d⟩, _⟩ := I.list h
  obtain ⟨its', r', ⟨o', n', e', _, _, d'⟩, _⟩ := I.list h'
  rw [e] at e'; cases e'
  rw [d] at d'
  injection d' with d1 _
  have : its = its' := by simpa using congrArg Array.toList d1
  subst this
  exact r.inj r'
theorem Inv.tuple_inj (I : Inv X pins σ H s) (h : SqT X.K H a xs) (h' : SqT X.K H a ys) : xs = ys := by
  obtain ⟨its, r, ⟨o, e, _, n, d⟩, _⟩ := I.tuple h
  obtain ⟨its', r', ⟨o', e', _, n', d'⟩, _⟩ := I.tuple h'
  rw [e] at e'; cases e'
  rw [d] at d'
  injection d' with d1 _
  have : its = its' := by simpa using congrArg Array.toList d1
  subst this
  exact r.inj r'
end

/-! ### another wish about exceptions -/
abbrev Cx.wish (X : Cx) (E : Value → Shared → Prop) : Cx := { X with xe := E }
/-- no exception leaves -/
abbrev Cx.nox (X : Cx) : Cx := X.wish fun _ _ => False
theorem Cx.Ok.wish {X : Cx} (ok : X.Ok) (E : Value → Shared → Prop) : (X.wish E).Ok :=
  ⟨ok.mod, ok.kind, ok.glob, ok.blt, ok.above, ok.inj, ok.has, ok.cab, ok.hd, ok.frames, ok.stk, ok.exf, ok.bs, ok.bsz, ok.noex, ok.exfs, ok.funs, ok.frf⟩
theorem Cx.Ok.unwish {X : Cx} {E : Value → Shared → Prop} (ok : (X.wish E).Ok) : X.Ok :=
  ⟨ok.mod, ok.kind, ok.glob, ok.blt, ok.above, ok.inj, ok.has, ok.cab, ok.hd, ok.frames, ok.stk, ok.exf, ok.bs, ok.bsz, ok.noex, ok.exfs, ok.funs, ok.frf⟩
section
variable {X : Cx} {pins : List (Addr × Obj)} {σ : St} {H : Hp} {s : Shared} {E : Value → Shared → Prop}
theorem Inv.wish (I : Inv X pins σ H s) (E : Value → Shared → Prop) : Inv (X.wish E) pins σ H s := ⟨I.ok.wish E, I.os, I.bare, I.base, I.loc, I.cell, I.free, I.freeC, I.pin, I.hok, I.len⟩
theorem Inv.unwish (I : Inv (X.wish E) pins σ H s) : Inv X pins σ H s := ⟨I.ok.unwish, I.os, I.bare, I.base, I.loc, I.cell, I.free, I.freeC, I.pin, I.hok, I.len⟩
theorem SP.unwish {D : Ends} {f : Flow} {s' : Shared} (h : SP (X.wish E) pins D f s') : SP X pins D f s' := by
  cases f with
  | next => obtain ⟨σ', H', I, q⟩ := h; exact ⟨σ', H', I.unwish, q⟩
  | brk => obtain ⟨σ', H', I, q⟩ := h; exact ⟨σ', H', I.unwish, q⟩
  | cont => obtain ⟨σ', H', I, q⟩ := h; exact ⟨σ', H', I.unwish, q⟩
  | ret u => obtain ⟨v, σ', H', I, r, q⟩ := h; exact ⟨v, σ', H', I.unwish, r, q⟩
theorem PE.nox {e : Expr} {t : TE} (h : PE X.nox e t) : PE X e t := fun pins s σ H Q I hw =>
  wpAny_mono (h pins s σ H Q (I.wish _) hw) (fun _ _ ⟨v, H', I', r, q⟩ => ⟨v, H', I'.unwish, r, q⟩) fun _ _ z => False.elim z
theorem PT.nox {e : Expr} {t : TT} (h : PT X.nox e t) : PT X e t := fun pins s σ H Q I hw =>
  wpAny_mono (h pins s σ H Q (I.wish _) hw) (fun _ _ ⟨H', I', q⟩ => ⟨H', I'.unwish, q⟩) fun _ _ z => False.elim z
theorem PSs.nox {st : List Stmt} {t : TS} (h : PSs X.nox st t) : PSs X st t := fun pins s σ H D I hw =>
  wpAny_mono (h pins s σ H D (I.wish _) hw) (fun _ _ q => q.unwish) fun _ _ z => False.elim z
end

/-! ### blocks and small statements -/
section
variable {X : Cx} {st : Stmt} {rest : List Stmt} {t u : TS} {e : Expr} {te : TE} {pos : Pos}
/-- in a def's body nothing is shown -/
theorem Inv.quiet {pins : List (Addr × Obj)} {σ : St} {H : Hp} {s : Shared} (I : Inv X pins σ H s) : interactive X.env = false := by simp [interactive, I.ok.kind]
end

/-! ### targets -/
/-- o[i] = v, by values -/
abbrev TSet := V → V → V → Hp → (Hp → Prop) → Prop
def PSet (X : Cx) (t : TSet) : Prop :=
  ∀ (pins : List (Addr × Obj)) (s : Shared) (σ : St) (H : Hp) (o i v : V) (ov iv u : Value) (Q : Hp → Prop), Inv X pins σ H s → RelV o ov → RelV i iv → RelV v u → t o i v H Q →
    wpAny (model X.prog X.w) X.A (setItem ov iv u) (fun _ s' => ∃ H', Inv X pins σ H' s' ∧ Q H') X.xe s
section
variable {X : Cx} {pos : Pos}
end

/-! ### while -/
section
variable {X : Cx} {pos : Pos}
end

/-! ### what a loop or a comprehension walks -/
/-- at turn i: it yields x (the heap may grow), or it stops -/
structure It where
  go : Nat → Hp → Prop
  yld : Nat → Hp → V → Hp → Prop
  stop : Nat → Hp → Prop
/-- the iterator's own objects may turn: they are not the frame's, not pinned, younger than the entry (or a comprehension's own) -/
def FpOk (X : Cx) (pins : List (Addr × Obj)) (H : Hp) (b : Addr) : Prop :=
  H b = none ∧ b ≠ X.env.locals ∧ b ∉ X.fs ∧ (b ∈ X.ex ∨ X.s₀.heap.objs.size ≤ b) ∧ (∀ x c, X.env.cells.lookup x = some c → c ≠ b) ∧ ∀ p ∈ X.pn ++ pins, p.1 ≠ b
theorem Inv.fpOk {X : Cx} {pins : List (Addr × Obj)} {σ : St} {H H' : Hp} {s : Shared} {b : Addr} (I : Inv X pins σ H s) (hb : s.heap.objs.size ≤ b) (hn : H' b = none) : FpOk X pins H' b := by
  refine ⟨hn, Nat.ne_of_gt (Nat.lt_of_lt_of_le I.lt hb), I.nofs hb, .inr (Nat.le_trans I.sz hb), fun x c e z => ?_, fun p hp z => ?_⟩
  · obtain ⟨v, q⟩ := I.cell x c e
    exact absurd (Nat.lt_of_lt_of_le q.lt (by rw [z]; exact hb)) (Nat.lt_irrefl _)
  · exact absurd (Nat.lt_of_lt_of_le (Heap.lt_size (I.pin p hp).1) (by rw [z]; exact hb)) (Nat.lt_irrefl _)
structure Turn (P : Program) (w : World) (K : PySem.W.Frag) (tg : Expr) (J : It) (fp : List Addr) (it : Addr) (tn : Nat → Heap → Prop) : Prop where
  mem : it ∈ fp
  obj : ∀ i h, tn i h → ∀ b ∈ fp, ∃ o, h.get? b = some o ∧ ∀ v, o.data ≠ .cell v
  keep : ∀ i h h', tn i h → (∀ b ∈ fp, ∀ o, h.get? b = some o → h'.get? b = some o) → tn i h'
  item : ∀ (X : Cx), X.prog = P → X.w = w → X.K = K → X.calm = true → ∀ (i : Nat) (pins : List (Addr × Obj)) (s : Shared) (σ : St) (H : Hp) (E : Value → Shared → Prop), Inv X pins σ H s → (∀ b ∈ fp, FpOk X pins H b) → tn i s.heap → J.go i H →
    wpAny (model P w) X.A (pyNext (.ref it)) (fun r s1 => ∃ u, r = some u ∧
      wpAny (model P w) X.A (letOwnedTupleGo tg (.ref it) u) (fun _ s2 => ∃ x H', Inv X pins σ H' s2 ∧ RelV x u ∧ J.yld i H x H' ∧ tn (i + 1) s2.heap ∧ ∀ b ∈ fp, H' b = none) E s1) E s
  done : ∀ (X : Cx), X.prog = P → X.w = w → X.K = K → X.calm = true → ∀ (i : Nat) (pins : List (Addr × Obj)) (s : Shared) (σ : St) (H : Hp) (E : Value → Shared → Prop), Inv X pins σ H s → (∀ b ∈ fp, FpOk X pins H b) → tn i s.heap → J.stop i H →
    wpAny (model P w) X.A (pyNext (.ref it)) (fun r s1 => r = none ∧ Inv X pins σ H s1) E s
  self : ∀ (A : Around) (i : Nat) (s : Shared) (Q : Value → Shared → Prop) (E : Value → Shared → Prop), tn i s.heap → Q (.ref it) s → wpAny (model P w) A (pyIter (.ref it)) Q E s
abbrev TI := St → Hp → (It → Hp → Prop) → Prop
/-- an iterator has come -/
def PIE (X : Cx) (pins : List (Addr × Obj)) (σ : St) (tg : Expr) (R : It → Hp → Prop) (itv : Value) (s2 : Shared) : Prop :=
  ∃ (it : Addr) (fp : List Addr) (tn : Nat → Heap → Prop) (J : It) (H' : Hp), itv = .ref it ∧ Inv X pins σ H' s2 ∧ Turn X.prog X.w X.K tg J fp it tn ∧ tn 0 s2.heap ∧ (∀ b ∈ fp, FpOk X pins H' b) ∧ R J H'
def PI (X : Cx) (tg iter : Expr) (wi : TI) : Prop :=
  ∀ (pins : List (Addr × Obj)) (s : Shared) (σ : St) (H : Hp) (R : It → Hp → Prop), Inv X pins σ H s → wi σ H R →
    wpAny (model X.prog X.w) X.A (eval iter X.env) (fun v s1 => wpAny (model X.prog X.w) X.A (pyIter v) (PIE X pins σ tg R) X.xe s1) X.xe s

/-- the step ahead of the store is nothing for an iterator that keeps no tuple -/
theorem go_of {M : Model} {A : Around} {E : Value → Shared → Prop} {s : Shared} {tg : Expr} {it : Addr} {u : Value} {o : Obj} {n : String} {vs : Array Value} {Q : Unit → Shared → Prop} (ho : s.heap.get? it = some o) (hc : o.cls = .type n) (hd : o.data = .fields vs)
    (hn : ["enumerate", "zip", "dict_itemiterator", "dict_reverseitemiterator", "odict_iterator", "itertools.zip_longest", "itertools.pairwise"].contains n = false) (hQ : Q () s) : wpAny M A (letOwnedTupleGo tg (.ref it) u) Q E s := by
  unfold letOwnedTupleGo
  cases tg <;> first
    | exact wpAny_pure hQ
    | (cases u <;> first
        | exact wpAny_pure hQ
        | (refine wpAny_bind (wpAny_load ho ?_)
           rw [hc, hd]
           show wpAny M A (if (["enumerate", "zip", "dict_itemiterator", "dict_reverseitemiterator", "odict_iterator", "itertools.zip_longest", "itertools.pairwise"].contains n && vs[0]? == some (rawInt _)) = true then _ else _) Q E s
           rw [if_neg (by intro h; rw [hn, Bool.false_and] at h; cases h)]
           exact wpAny_pure hQ))

/-- the list at a, as it stands at each turn (a loop may append to it) -/
def Itl (K : PySem.W.Frag) (a : Addr) : It :=
  ⟨fun i H => ∃ xs x, SqL K H a xs ∧ xs[i]? = some x, fun i H x H' => H' = H ∧ ∀ xs, SqL K H a xs → xs[i]? = some x, fun i H => ∃ xs, SqL K H a xs ∧ xs.length ≤ i⟩
def Itt (K : PySem.W.Frag) (a : Addr) : It :=
  ⟨fun i H => ∃ xs x, SqT K H a xs ∧ xs[i]? = some x, fun i H x H' => H' = H ∧ ∀ xs, SqT K H a xs → xs[i]? = some x, fun i H => ∃ xs, SqT K H a xs ∧ xs.length ≤ i⟩
/-- lo, lo + 1, .. (n of them) -/
def Itr (lo : Int) (n : Nat) : It := ⟨fun i _ => i < n, fun i H x H' => H' = H ∧ x = .int (lo + i), fun i _ => n ≤ i⟩
theorem turn_list {P : Program} {w : World} {K : PySem.W.Frag} {tg : Expr} (a it : Addr) : Turn P w K tg (Itl K a) [it] it (fun i h => h.IsListIter it a i) where
  mem := by simp
  obj := fun i h st b hb => by
    have e : b = it := by simpa using hb
    subst e
    obtain ⟨o, e, c, d⟩ := st
    exact ⟨o, e, fun v z => by rw [d] at z; cases z⟩
  keep := fun i h h' st k => st.at fun o e => k it (by simp) o e
  item := by
    intro X hP hw hK hc i pins s σ H E I hf st hg
    subst hP hw hK
    obtain ⟨xs, x, hq, hx⟩ := hg
    obtain ⟨its, rv, p, hz⟩ := I.list hq
    obtain ⟨u, hu, ru⟩ := rv.get hx
    obtain ⟨f0, f1, f2, f3, f4, f5⟩ := hf it (by simp)
    refine wpAny_pyNext_list_item st p.isList (x := u) (by simpa using hu) fun h' st' sb => ?_
    have I1 : Inv X pins σ H { s with heap := h' } := I.turned (t' := s.toks) (fun b o hb e => (sb.2 b hb).trans e) f0 f1 f3 f4 f5
    obtain ⟨o, e, c, d⟩ := id st'
    exact ⟨u, rfl, go_of (s := { s with heap := h' }) e c d (by decide) ⟨x, H, I1, ru, ⟨rfl, fun ys hy => by rw [I.list_inj hy hq]; exact hx⟩, st', fun b hb => (hf b hb).1⟩⟩
  done := by
    intro X hP hw hK hc i pins s σ H E I hf st hg
    subst hP hw hK
    obtain ⟨xs, hq, hx⟩ := hg
    obtain ⟨its, rv, p, hz⟩ := I.list hq
    obtain ⟨f0, f1, f2, f3, f4, f5⟩ := hf it (by simp)
    have hl := rv.length
    exact wpAny_pyNext_list_end (I.ok.hd hc) st p.isList (by simp; omega) fun h' eb => ⟨rfl, I.turned (t' := s.toks) (fun b o hb e => eb b o hb e) f0 f1 f3 f4 f5⟩
  self := fun _ _ _ _ _ st h => wpAny_pyIter_listiter st h
theorem turn_tuple {P : Program} {w : World} {K : PySem.W.Frag} {tg : Expr} (a it : Addr) : Turn P w K tg (Itt K a) [it] it (fun i h => h.IsTupleIter it a i) where
  mem := by simp
  obj := fun i h st b hb => by
    have e : b = it := by simpa using hb
    subst e
    obtain ⟨o, e, c, d⟩ := st
    exact ⟨o, e, fun v z => by rw [d] at z; cases z⟩
  keep := fun i h h' st k => st.at fun o e => k it (by simp) o e
  item := by
    intro X hP hw hK hc i pins s σ H E I hf st hg
    subst hP hw hK
    obtain ⟨xs, x, hq, hx⟩ := hg
    obtain ⟨its, rv, p, hz⟩ := I.tuple hq
    obtain ⟨u, hu, ru⟩ := rv.get hx
    obtain ⟨f0, f1, f2, f3, f4, f5⟩ := hf it (by simp)
    refine wpAny_pyNext_tuple_item st (show s.heap.IsTuple a its.toArray from p) (x := u) (by simpa using hu) fun h' st' sb => ?_
    have I1 : Inv X pins σ H { s with heap := h' } := I.turned (t' := s.toks) (fun b o hb e => (sb.2 b hb).trans e) f0 f1 f3 f4 f5
    obtain ⟨o, e, c, d⟩ := id st'
    exact ⟨u, rfl, go_of (s := { s with heap := h' }) e c d (by decide) ⟨x, H, I1, ru, ⟨rfl, fun ys hy => by rw [I.tuple_inj hy hq]; exact hx⟩, st', fun b hb => (hf b hb).1⟩⟩
  done := by
    intro X hP hw hK hc i pins s σ H E I hf st hg
    subst hP hw hK
    obtain ⟨xs, hq, hx⟩ := hg
    obtain ⟨its, rv, p, hz⟩ := I.tuple hq
    obtain ⟨f0, f1, f2, f3, f4, f5⟩ := hf it (by simp)
    have hl := rv.length
    exact wpAny_pyNext_tuple_end (I.ok.hd hc) st (show s.heap.IsTuple a its.toArray from p) (by simp; omega) fun h' eb => ⟨rfl, I.turned (t' := s.toks) (fun b o hb e => eb b o hb e) f0 f1 f3 f4 f5⟩
  self := fun _ _ _ _ _ st h => wpAny_pyIter_tupleiter st h
theorem turn_range {P : Program} {w : World} {K : PySem.W.Frag} {tg : Expr} (it : Addr) (lo : Int) (n : Nat) : Turn P w K tg (Itr lo n) [it] it (fun i h => IsRangeIter h it (lo + (i : Nat) * 1) ((n : Int) - (i : Nat)) 1) where
  mem := by simp
  obj := fun i h st b hb => by
    have e : b = it := by simpa using hb
    subst e
    exact ⟨_, st, fun v z => by
      have z' : Data.fields _ = Data.cell v := z
      cases z'⟩
  keep := fun i h h' st k => k it (by simp) _ st
  item := by
    intro X hP hw hK hc i pins s σ H E I hf st hg
    subst hP hw hK
    obtain ⟨f0, f1, f2, f3, f4, f5⟩ := hf it (by simp)
    have W := Walks.range (prog := X.prog) (w := X.w) (I.ok.hd hc) it lo 1 n
    refine W.item i s _ _ hg st fun v h' tk hv st' kk => ?_
    obtain ⟨t, rfl⟩ := hv
    have I1 : Inv X pins σ H { s with heap := h', toks := tk } := I.turned (fun b o hb e => kk b o (by simpa using hb) e) f0 f1 f3 f4 f5
    refine ⟨_, rfl, go_of (s := { s with heap := h', toks := tk }) (n := "range_iterator") st' rfl rfl (by decide) ⟨.int (lo + i), H, I1, ⟨t, ?_⟩, ⟨rfl, rfl⟩, st', fun b hb => (hf b hb).1⟩⟩
    rw [Int.mul_one]
  done := by
    intro X hP hw hK hc i pins s σ H E I hf st hg
    subst hP hw hK
    obtain ⟨f0, f1, f2, f3, f4, f5⟩ := hf it (by simp)
    exact wpAny_pyNext_range_end (I.ok.hd hc) st (by have : n ≤ i := hg; omega) fun h' eb => ⟨rfl, I.turned (t' := s.toks) (fun b o hb e => eb b o hb e) f0 f1 f3 f4 f5⟩
  self := fun _ _ _ _ _ st h => wpAny_pyIter_rangeiter st h
end L2

namespace L2
open PySem PySem.Spec PyProof.Rows
section
variable {X : Cx} {tg : Expr}
def iList (K : PySem.W.Frag) (tl : TE) : TI := fun σ H R => tl σ H fun x H1 => ∃ a, x = .ref a ∧ (∃ xs, SqL K H1 a xs) ∧ R (Itl K a) H1
def iTup (K : PySem.W.Frag) (tl : TE) : TI := fun σ H R => tl σ H fun x H1 => ∃ a, x = .ref a ∧ (∃ xs, SqT K H1 a xs) ∧ R (Itt K a) H1
theorem pi_list {l : Expr} {tl : TE} (hl : PE X l tl) : PI X tg l (iList X.K tl) := by
  intro pins s σ H R I h
  refine thn (hl pins s σ H _ I h) fun v s1 ⟨x, H1, I1, r1, q1⟩ => ?_
  obtain ⟨a, e, ⟨xs, hq⟩, q⟩ := q1
  subst e
  cases r1
  obtain ⟨its, rv, p, hz⟩ := I1.list hq
  refine wpAny_pyIter_list p.isList ?_
  refine ⟨s1.heap.objs.size, [s1.heap.objs.size], _, _, H1, rfl, I1.kept (t' := s1.toks) fun b o e => Heap.get?_push_of_some _ e, turn_list a _, ⟨_, Heap.get?_push_size _ rfl, rfl, rfl⟩, fun b hb => ?_, q⟩
  have e : b = s1.heap.objs.size := by simpa using hb
  subst e
  exact I1.fpOk (Nat.le_refl _) (I1.hok.fresh (Nat.le_refl _))
theorem pi_tup {l : Expr} {tl : TE} (hl : PE X l tl) : PI X tg l (iTup X.K tl) := by
  intro pins s σ H R I h
  refine thn (hl pins s σ H _ I h) fun v s1 ⟨x, H1, I1, r1, q1⟩ => ?_
  obtain ⟨a, e, ⟨xs, hq⟩, q⟩ := q1
  subst e
  cases r1
  obtain ⟨its, rv, p, hz⟩ := I1.tuple hq
  refine wpAny_pyIter_tuple (show s1.heap.IsTuple a its.toArray from p) ?_
  refine ⟨s1.heap.objs.size, [s1.heap.objs.size], _, _, H1, rfl, I1.kept (t' := s1.toks) fun b o e => Heap.get?_push_of_some _ e, turn_tuple a _, ⟨_, Heap.get?_push_size _ rfl, rfl, rfl⟩, fun b hb => ?_, q⟩
  have e : b = s1.heap.objs.size := by simpa using hb
  subst e
  exact I1.fpOk (Nat.le_refl _) (I1.hok.fresh (Nat.le_refl _))
/-- a range object just made, walked -/
theorem range_it {pins : List (Addr × Obj)} {σ : St} {H : Hp} {s : Shared} {R : It → Hp → Prop} {E : Value → Shared → Prop} {lo hi : Int} {t u v : Tok} {tk : Nat} (I : Inv X pins σ H s) (h1 : -(2 ^ 62) ≤ lo) (h2 : lo < 2 ^ 62) (h3 : -(2 ^ 62) ≤ hi) (h4 : hi < 2 ^ 62)
    (q : R (Itr lo (hi - lo).toNat) H) : wpAny (model X.prog X.w) X.A (pyIter (.ref s.heap.objs.size)) (PIE X pins σ tg R) E { s with heap := s.heap.push { cls := .type "range", data := .fields #[.int lo t, .int hi u, .int 1 v] }, toks := tk } := by
  refine wpAny_pyIter_range (IsRange.new ..) (small_one h1 h2 h3 h4) ?_
  have I1 : Inv X pins σ H { s with heap := s.heap.push { cls := .type "range", data := .fields #[.int lo t, .int hi u, .int 1 v] }, toks := tk } := I.kept fun b o e => Heap.get?_push_of_some _ e
  refine ⟨(s.heap.push { cls := .type "range", data := .fields #[.int lo t, .int hi u, .int 1 v] }).objs.size, [(s.heap.push { cls := .type "range", data := .fields #[.int lo t, .int hi u, .int 1 v] }).objs.size], _, _, H, rfl,
    I1.kept (t' := tk) fun b o e => Heap.get?_push_of_some _ e, turn_range _ lo (hi - lo).toNat, ?_, fun b hb => ?_, q⟩
  · have e1 : lo + ((0 : Nat) : Int) * 1 = lo := by simp
    have e2 : (((hi - lo).toNat : Nat) : Int) - ((0 : Nat) : Int) = Builtin.Range.rangeSize lo hi 1 := by rw [rangeSize_one]; split <;> omega
    show IsRangeIter _ _ (lo + ((0 : Nat) : Int) * 1) ((((hi - lo).toNat : Nat) : Int) - ((0 : Nat) : Int)) 1
    rw [e1, e2]
    exact Heap.get?_push_size _ rfl
  · have e : b = (s.heap.push { cls := .type "range", data := .fields #[.int lo t, .int hi u, .int 1 v] }).objs.size := by simpa using hb
    subst e
    exact I1.fpOk (Nat.le_refl _) (I1.hok.fresh (Nat.le_refl _))
def iRng1 (ta : TA) : TI := fun σ H R => ta σ H fun vs H1 => ∃ j : Int, vs = [.int j] ∧ -(2 ^ 62) ≤ j ∧ j < 2 ^ 62 ∧ R (Itr 0 j.toNat) H1
theorem pi_range1 {a : Expr} {ta : TA} {p pos : Pos} (hg : Gl X "range") (hm : X.mg "range" = none) (ha : PA X [a] ta) (hs : starEach [a] X.env = [(false, eval a X.env)] := by rfl) : PI X tg (.Call (.Name "range" p) [a] [] pos) (iRng1 ta) := by
  intro pins s σ H R I h
  refine Call_ (ld_blt I hg hm boot_range (PyProof.Rows.callWith_type1 (thn (ha pos pins s σ H _ I h) fun us s1 ⟨vs, H1, I1, r1, q1⟩ => ?_) hs rfl))
  obtain ⟨j, e, q1, q2, q⟩ := q1
  subst e
  cases r1 with
  | cons r rr =>
    cases rr
    obtain ⟨t, rfl⟩ := r
    exact call_range_1 (range_it I1 (by omega) (by omega) q1 q2 (by simpa using q))
/-! ### for -/
/-- the records at fp as they stand -/
def pinsAt (fp : List Addr) (h : Heap) : List (Addr × Obj) := fp.filterMap fun b => (h.get? b).map fun o => (b, o)
theorem mem_pinsAt {fp : List Addr} {h : Heap} {b : Addr} {o : Obj} (hb : b ∈ fp) (e : h.get? b = some o) : (b, o) ∈ pinsAt fp h := List.mem_filterMap.mpr ⟨b, hb, by rw [e]; rfl⟩
theorem of_pinsAt {fp : List Addr} {h : Heap} {p : Addr × Obj} (hp : p ∈ pinsAt fp h) : p.1 ∈ fp ∧ h.get? p.1 = some p.2 := by
  obtain ⟨b, hb, e⟩ := List.mem_filterMap.mp hp
  cases q : h.get? b with
  | none => rw [q] at e; cases e
  | some o =>
    rw [q] at e
    have e' : (b, o) = p := Option.some.inj e
    subst e'
    exact ⟨hb, q⟩
theorem Inv.pinned {pins : List (Addr × Obj)} {σ : St} {H : Hp} {s : Shared} {fp : List Addr} (I : Inv X pins σ H s) (hf : ∀ b ∈ fp, FpOk X pins H b) (ho : ∀ b ∈ fp, ∃ o, s.heap.get? b = some o ∧ ∀ v, o.data ≠ .cell v) : Inv X (pins ++ pinsAt fp s.heap) σ H s :=
  I.pins_of fun p hp => (List.mem_append.mp hp).elim (fun z => I.pin p (List.mem_append_right _ z)) fun z => by
    obtain ⟨hb, e⟩ := of_pinsAt z
    obtain ⟨f0, f1, f2, _⟩ := hf p.1 hb
    obtain ⟨o, e', d⟩ := ho p.1 hb
    rw [e] at e'; cases e'
    exact ⟨e, f0, f1, f2, d⟩
theorem Inv.unpinned {pins pl : List (Addr × Obj)} {σ : St} {H : Hp} {s : Shared} (I : Inv X (pins ++ pl) σ H s) : Inv X pins σ H s := I.pins_of fun p hp => I.pin p (List.mem_append_right _ (List.mem_append_left _ hp))
end

/-! ### the forms one uses -/
end L2

namespace L2
open PySem PySem.Spec PyProof.Rows

abbrev R2 := V → V → Hp → VK → Prop
/-- a two-place operation on values: f is binaryOp op, inplaceOp op or compareOp op -/
def OpR (X : Cx) (f : Value → Value → Sem Value) (r : R2) : Prop :=
  ∀ (pins : List (Addr × Obj)) (s : Shared) (σ : St) (H : Hp) (x y : V) (v u : Value) (Q : VK), Inv X pins σ H s → RelV x v → RelV y u → r x y H Q →
    wpAny (model X.prog X.w) X.A (f v u) (EP X pins σ Q) X.xe s
/-- a one-place operation -/
def UnR (X : Cx) (f : Value → Sem Value) (r : V → Hp → VK → Prop) : Prop :=
  ∀ (pins : List (Addr × Obj)) (s : Shared) (σ : St) (H : Hp) (x : V) (v : Value) (Q : VK), Inv X pins σ H s → RelV x v → r x H Q →
    wpAny (model X.prog X.w) X.A (f v) (EP X pins σ Q) X.xe s
/-- a call of a value that is known (a builtin, a type) with values -/
def CallR (X : Cx) (f : Value) (r : List V → Hp → VK → Prop) : Prop :=
  ∀ (pins : List (Addr × Obj)) (s : Shared) (σ : St) (H : Hp) (xs : List V) (us : List Value) (Q : VK), Inv X pins σ H s → Vals xs us → r xs H Q →
    wpAny (model X.prog X.w) X.A (call f us) (EP X pins σ Q) X.xe s
/-- a value's truth -/
def TruR (X : Cx) (r : V → Hp → (Bool → Hp → Prop) → Prop) : Prop :=
  ∀ (pins : List (Addr × Obj)) (s : Shared) (σ : St) (H : Hp) (x : V) (v : Value) (Q : Bool → Hp → Prop), Inv X pins σ H s → RelV x v → r x H Q →
    wpAny (model X.prog X.w) X.A (truthy v) (TP X pins σ Q) X.xe s

/-- ints in, under C, and a value out -/
def rI (C : Int → Int → Prop) (g : Int → Int → V) : R2 := fun x y H Q => ∃ i j, x = .int i ∧ y = .int j ∧ C i j ∧ Q (g i j) H
def rI0 (g : Int → Int → V) : R2 := fun x y H Q => ∃ i j, x = .int i ∧ y = .int j ∧ Q (g i j) H
def rU (g : Int → V) : V → Hp → VK → Prop := fun x H Q => ∃ i, x = .int i ∧ Q (g i) H

section
variable {X : Cx} {a b c : Expr} {ta tb tc : TE} {pos : Pos}

/-! ### ints -/
theorem opI {f : Value → Value → Sem Value} {C : Int → Int → Prop} {g : Int → Int → Int}
    (rule : ∀ (i j : Int) (t u : Tok) (s : Shared) (Q : Value → Shared → Prop) (E : Value → Shared → Prop), C i j → Q (.int (g i j) s.toks) { s with toks := s.toks + 1 } → wpAny (model X.prog X.w) X.A (f (.int i t) (.int j u)) Q E s) :
    OpR X f (rI C fun i j => .int (g i j)) := by
  intro pins s σ H x y v u Q I rx ry h
  obtain ⟨i, j, rfl, rfl, hc, q⟩ := h
  obtain ⟨t, rfl⟩ := rx
  obtain ⟨t', rfl⟩ := ry
  exact rule i j t t' s _ _ hc ⟨.int (g i j), H, I.tok _, ⟨_, rfl⟩, q⟩
theorem opI0 {f : Value → Value → Sem Value} {g : Int → Int → Int}
    (rule : ∀ (i j : Int) (t u : Tok) (s : Shared) (Q : Value → Shared → Prop) (E : Value → Shared → Prop), Q (.int (g i j) s.toks) { s with toks := s.toks + 1 } → wpAny (model X.prog X.w) X.A (f (.int i t) (.int j u)) Q E s) :
    OpR X f (rI0 fun i j => .int (g i j)) := by
  intro pins s σ H x y v u Q I rx ry h
  obtain ⟨i, j, rfl, rfl, q⟩ := h
  obtain ⟨t, rfl⟩ := rx
  obtain ⟨t', rfl⟩ := ry
  exact rule i j t t' s _ _ ⟨.int (g i j), H, I.tok _, ⟨_, rfl⟩, q⟩
theorem opB0 {f : Value → Value → Sem Value} {g : Int → Int → Bool}
    (rule : ∀ (i j : Int) (t u : Tok) (s : Shared) (Q : Value → Shared → Prop) (E : Value → Shared → Prop), Q (.bool (g i j)) s → wpAny (model X.prog X.w) X.A (f (.int i t) (.int j u)) Q E s) :
    OpR X f (rI0 fun i j => .bl (g i j)) := by
  intro pins s σ H x y v u Q I rx ry h
  obtain ⟨i, j, rfl, rfl, q⟩ := h
  obtain ⟨t, rfl⟩ := rx
  obtain ⟨t', rfl⟩ := ry
  exact rule i j t t' s _ _ ⟨.bl (g i j), H, I, rfl, q⟩

def CPow (i j : Int) : Prop := 0 ≤ j ∧ j ≤ 1000000 ∧ i.natAbs < 2 ^ 64
def CMul (i j : Int) : Prop := (-(2 ^ 64) < i ∧ i < 2 ^ 64) ∨ (-(2 ^ 64) < j ∧ j < 2 ^ 64)
theorem CMul.ok {i j : Int} (h : CMul i j) : IntMulOk i j := by
  rcases h with ⟨h1, h2⟩ | ⟨h1, h2⟩
  · exact .of_left (intBits_le_64 h1 h2)
  · exact .of_right (intBits_le_64 h1 h2)
theorem op_add : OpR X (binaryOp .Add) (rI0 fun i j => .int (i + j)) := opI0 fun _ _ _ _ _ _ _ q => add_int q
theorem op_sub : OpR X (binaryOp .Sub) (rI0 fun i j => .int (i - j)) := opI0 fun _ _ _ _ _ _ _ q => sub_int q
theorem op_modN : OpR X (binaryOp .Mod) (rI (fun _ j => j ≠ 0) fun i j => .int (i.fmod j)) := opI fun _ _ _ _ _ _ _ hc q => mod_int' hc q
theorem op_pow : OpR X (binaryOp .Pow) (rI CPow fun i j => .int (i ^ j.toNat)) := opI fun _ _ _ _ _ _ _ hc q => pow_int_small hc.1 hc.2.1 hc.2.2 q
theorem unI {f : Value → Sem Value} {g : Int → Int}
    (rule : ∀ (i : Int) (t : Tok) (s : Shared) (Q : Value → Shared → Prop) (E : Value → Shared → Prop), Q (.int (g i) s.toks) { s with toks := s.toks + 1 } → wpAny (model X.prog X.w) X.A (f (.int i t)) Q E s) :
    UnR X f (rU fun i => .int (g i)) := by
  intro pins s σ H x v Q I rx h
  obtain ⟨i, rfl, q⟩ := h
  obtain ⟨t, rfl⟩ := rx
  exact rule i t s _ _ ⟨.int (g i), H, I.tok _, ⟨_, rfl⟩, q⟩
theorem un_neg : UnR X (unaryOp .USub) (rU fun i => .int (-i)) := unI fun _ _ _ _ _ q => neg_int q
/-! ### bools among ints: n += (a < b) -/
end

/-! ### comparisons -/
/-- the scalars that == tells apart as data does -/
def scal : V → V → Bool
  | .non, .non => true | .non, .int _ => true | .int _, .non => true | .non, .bl _ => true | .bl _, .non => true | .non, .str _ => true | .str _, .non => true
  | .int _, .int _ => true | .bl _, .bl _ => true | .str _, .str _ => true | .byt _, .byt _ => true
  | .int _, .str _ => true | .str _, .int _ => true | .bl _, .str _ => true | .str _, .bl _ => true
  | _, _ => false
def rEq : R2 := fun x y H Q => scal x y = true ∧ Q (.bl (decide (x = y))) H
def rNe : R2 := fun x y H Q => scal x y = true ∧ Q (.bl (!decide (x = y))) H

theorem dec_int {i j : Int} : decide (V.int i = V.int j) = (i == j) := by
  rw [Bool.eq_iff_iff]
  simp
theorem dec_bl {i j : Bool} : decide (V.bl i = V.bl j) = (i == j) := by
  rw [Bool.eq_iff_iff]
  simp
theorem dec_str {i j : Str} : decide (V.str i = V.str j) = (i == j) := by
  rw [Bool.eq_iff_iff]
  simp
theorem dec_byt {i j : Array UInt8} : decide (V.byt i = V.byt j) = (i.toList == j.toList) := by
  rw [Bool.eq_iff_iff]
  cases i
  cases j
  simp

section
variable {X : Cx} {a b c : Expr} {ta tb tc : TE} {pos : Pos}
theorem fin_bl {pins : List (Addr × Obj)} {σ : St} {H : Hp} {s : Shared} {Q : VK} {k k' : Bool} (I : Inv X pins σ H s) (q : Q (.bl k) H) (e : k = k') : EP X pins σ Q (.bool k') s := by
  subst e
  exact ⟨.bl k, H, I, rfl, q⟩
theorem op_eq : OpR X (compareOp .Eq) rEq := by
  intro pins s σ H x y v u Q I rx ry h
  obtain ⟨hs, q⟩ := h
  cases x with
  | non =>
    cases rx
    cases y with
    | non => cases ry; exact PySem.EqNone.eq_none_none (fin_bl I q (by simp))
    | bl j => cases ry; exact PySem.EqNone.eq_none_bool (fin_bl I q (by simp))
    | int j => obtain ⟨t', rfl⟩ := ry; exact PySem.EqNone.eq_none_int (fin_bl I q (by simp))
    | str j => obtain ⟨t', rfl⟩ := ry; exact PySem.EqNone.eq_none_str (fin_bl I q (by simp))
    | _ => exact absurd (show false = true from hs) Bool.false_ne_true
  | bl i =>
    cases rx
    cases y with
    | non => cases ry; exact PySem.EqNone.eq_bool_none (fin_bl I q (by simp))
    | bl j => cases ry; exact eq_bool (fin_bl I q dec_bl)
    | str j => obtain ⟨t', rfl⟩ := ry; exact PySem.EqMixed.eq_bool_str (fin_bl I q (by simp))
    | _ => exact absurd (show false = true from hs) Bool.false_ne_true
  | int i =>
    obtain ⟨t, rfl⟩ := rx
    cases y with
    | non => cases ry; exact PySem.EqNone.eq_int_none (fin_bl I q (by simp))
    | int j => obtain ⟨t', rfl⟩ := ry; exact eq_int (fin_bl I q dec_int)
    | str j => obtain ⟨t', rfl⟩ := ry; exact PySem.EqMixed.eq_int_str (fin_bl I q (by simp))
    | _ => exact absurd (show false = true from hs) Bool.false_ne_true
  | str i =>
    obtain ⟨t, rfl⟩ := rx
    cases y with
    | non => cases ry; exact PySem.EqNone.eq_str_none (fin_bl I q (by simp))
    | bl j => cases ry; exact PySem.EqMixed.eq_str_bool (fin_bl I q (by simp))
    | int j => obtain ⟨t', rfl⟩ := ry; exact PySem.EqMixed.eq_str_int (fin_bl I q (by simp))
    | str j => obtain ⟨t', rfl⟩ := ry; exact eq_str (fin_bl I q dec_str)
    | _ => exact absurd (show false = true from hs) Bool.false_ne_true
  | byt i =>
    obtain ⟨t, rfl⟩ := rx
    cases y with
    | byt j => obtain ⟨t', rfl⟩ := ry; exact PySem.W.eq_bytes (fin_bl I q dec_byt)
    | _ => exact absurd (show false = true from hs) Bool.false_ne_true
  | _ => cases y <;> exact absurd (show false = true from hs) Bool.false_ne_true
theorem op_ne : OpR X (compareOp .NotEq) rNe := by
  intro pins s σ H x y v u Q I rx ry h
  obtain ⟨hs, q⟩ := h
  cases x with
  | non =>
    cases rx
    cases y with
    | non => cases ry; exact PySem.EqNone.ne_none_none (fin_bl I q (by simp))
    | bl j => cases ry; exact PySem.EqNone.ne_none_bool (fin_bl I q (by simp))
    | int j => obtain ⟨t', rfl⟩ := ry; exact PySem.EqNone.ne_none_int (fin_bl I q (by simp))
    | str j => obtain ⟨t', rfl⟩ := ry; exact PySem.EqNone.ne_none_str (fin_bl I q (by simp))
    | _ => exact absurd (show false = true from hs) Bool.false_ne_true
  | bl i =>
    cases rx
    cases y with
    | non => cases ry; exact PySem.EqNone.ne_bool_none (fin_bl I q (by simp))
    | bl j => cases ry; exact ne_bool (fin_bl I q (congrArg not dec_bl))
    | str j => obtain ⟨t', rfl⟩ := ry; exact PySem.EqMixed.ne_bool_str (fin_bl I q (by simp))
    | _ => exact absurd (show false = true from hs) Bool.false_ne_true
  | int i =>
    obtain ⟨t, rfl⟩ := rx
    cases y with
    | non => cases ry; exact PySem.EqNone.ne_int_none (fin_bl I q (by simp))
    | int j => obtain ⟨t', rfl⟩ := ry; exact ne_int (fin_bl I q (congrArg not dec_int))
    | str j => obtain ⟨t', rfl⟩ := ry; exact PySem.EqMixed.ne_int_str (fin_bl I q (by simp))
    | _ => exact absurd (show false = true from hs) Bool.false_ne_true
  | str i =>
    obtain ⟨t, rfl⟩ := rx
    cases y with
    | non => cases ry; exact PySem.EqNone.ne_str_none (fin_bl I q (by simp))
    | bl j => cases ry; exact PySem.EqMixed.ne_str_bool (fin_bl I q (by simp))
    | int j => obtain ⟨t', rfl⟩ := ry; exact PySem.EqMixed.ne_str_int (fin_bl I q (by simp))
    | str j => obtain ⟨t', rfl⟩ := ry; exact ne_str (fin_bl I q (congrArg not dec_str))
    | _ => exact absurd (show false = true from hs) Bool.false_ne_true
  | byt i =>
    obtain ⟨t, rfl⟩ := rx
    cases y with
    | byt j => obtain ⟨t', rfl⟩ := ry; exact PySem.W.ne_bytes (fin_bl I q (congrArg not dec_byt))
    | _ => exact absurd (show false = true from hs) Bool.false_ne_true
  | _ => cases y <;> exact absurd (show false = true from hs) Bool.false_ne_true

theorem op_lt : OpR X (compareOp .Lt) (rI0 fun i j => .bl (decide (i < j))) := opB0 fun _ _ _ _ _ _ _ q => lt_int q
theorem op_le : OpR X (compareOp .LtE) (rI0 fun i j => .bl (decide (i ≤ j))) := opB0 fun _ _ _ _ _ _ _ q => le_int q
theorem op_gt : OpR X (compareOp .Gt) (rI0 fun i j => .bl (decide (j < i))) := opB0 fun _ _ _ _ _ _ _ q => gt_int q
theorem op_ge : OpR X (compareOp .GtE) (rI0 fun i j => .bl (decide (j ≤ i))) := opB0 fun _ _ _ _ _ _ _ q => ge_int q
/-- is None, is not None: the right side a value none -/
theorem op_isN : OpR X (compareOp .Is) (fun x y H Q => y = .non ∧ Q (.bl (decide (x = .non))) H) := by
  intro pins s σ H x y v u Q I rx ry h
  obtain ⟨rfl, q⟩ := h
  cases ry
  refine is_none_gen (fin_bl I q ?_)
  cases x <;> first
    | (cases rx; rfl)
    | (obtain ⟨t, rfl⟩ := rx; rfl)
/-- two rules for one operation: by cases -/
theorem OpR.or {f : Value → Value → Sem Value} {r r' : R2} (h : OpR X f r) (h' : OpR X f r') : OpR X f (fun x y H Q => r x y H Q ∨ r' x y H Q) := by
  intro pins s σ H x y v u Q I rx ry q
  rcases q with q | q
  · exact h pins s σ H x y v u Q I rx ry q
  · exact h' pins s σ H x y v u Q I rx ry q

theorem nomark (b : Expr) {op : CmpOp} (h : op ≠ .In := by decide) (h2 : op ≠ .NotIn := by decide) : behindInMarks op b = false := by
  have e1 : (op == CmpOp.In) = false := by cases op <;> first | rfl | exact absurd rfl h
  have e2 : (op == CmpOp.NotIn) = false := by cases op <;> first | rfl | exact absurd rfl h2
  cases b <;> simp [behindInMarks, e1, e2]
/-! ### truth -/
/-- a value's truth by the abstract heap -/
def TruV (K : PySem.W.Frag) (x : V) (H : Hp) (k : Bool) : Prop :=
  match x with
  | .non => k = false
  | .bl b => k = b
  | .int i => k = (i != 0)
  | .str y => y.length ≤ sizeLine ∧ k = ((y.length : Int) != 0)
  | .byt y => y.size ≤ sizeLine ∧ k = ((y.size : Int) != 0)
  | .ref p => (∃ xs, SqL K H p xs ∧ k = !xs.isEmpty) ∨ (∃ xs, SqT K H p xs ∧ k = !xs.isEmpty) ∨ ∃ kvs, H p = some (.dK kvs) ∧ k = !kvs.isEmpty
  | _ => False
theorem isEmpty_kv {κ : Type} {kvs : List (κ × V)} {vs : List (κ × Value)} (r : KV kvs vs) : (!vs.isEmpty) = !kvs.isEmpty := by
  cases r <;> rfl
theorem isEmpty_of {xs : List V} {its : List Value} (r : Vals xs its) : (!its.toArray.isEmpty) = !xs.isEmpty := by
  cases r <;> simp
theorem line63 : (sizeLine : Nat) < 2 ^ 63 := by rw [sizeLine_eq]; decide
theorem tru_ok : TruR X (fun x H Q => ∃ k, TruV X.K x H k ∧ Q k H) := by
  intro pins s σ H x v Q I rx h
  obtain ⟨k, e, q⟩ := h
  have hl := line63
  have hs : sizeLine = 16777216 := sizeLine_eq
  cases x with
  | non =>
    cases rx
    have e' : k = false := e
    subst e'
    exact truthy_none ⟨H, I, q⟩
  | bl b =>
    cases rx
    have e' : k = b := e
    subst e'
    exact wpAny_truthy_bool ⟨H, I, q⟩
  | int i =>
    obtain ⟨t, rfl⟩ := rx
    have e' : k = (i != 0) := e
    subst e'
    exact PySem.P.truthy_int ⟨H, I, q⟩
  | str y =>
    obtain ⟨t, rfl⟩ := rx
    obtain ⟨hy, e'⟩ : y.length ≤ sizeLine ∧ k = ((y.length : Int) != 0) := e
    subst e'
    exact PySem.P.truthy_str (by omega) ⟨H, I.tok _, q⟩
  | byt y =>
    obtain ⟨t, rfl⟩ := rx
    obtain ⟨hy, e'⟩ : y.size ≤ sizeLine ∧ k = ((y.size : Int) != 0) := e
    subst e'
    exact PySem.W.truthy_bytes (by omega) ⟨H, I.tok _, q⟩
  | ref p =>
    cases rx
    have e' : (∃ xs, SqL X.K H p xs ∧ k = !xs.isEmpty) ∨ (∃ xs, SqT X.K H p xs ∧ k = !xs.isEmpty) ∨ ∃ kvs, H p = some (.dK kvs) ∧ k = !kvs.isEmpty := e
    rcases e' with ⟨xs, hx, e'⟩ | ⟨xs, hx, e'⟩ | ⟨kvs, hx, e'⟩
    · subst e'
      obtain ⟨its, r, pl, hz⟩ := I.list hx
      have hlen := r.length
      exact wpAny_truthy_list pl.isList (by simp only [List.size_toArray]; omega) ⟨H, I.tok _, by rw [isEmpty_of r]; exact q⟩
    · subst e'
      obtain ⟨its, r, pl, hz⟩ := I.tuple hx
      have hlen := r.length
      exact truthy_tuple pl (by simp only [List.size_toArray]; omega) ⟨H, I.tok _, by rw [isEmpty_of r]; exact q⟩
    · subst e'
      obtain ⟨hz, hS, vs, r, m⟩ : kvs.length ≤ sizeLine ∧ (p == sysModules) = false ∧ ∃ vs, KV kvs vs ∧ s.heap.DictOf (mixKind X.prog X.w) p vs := I.hok p _ hx
      have hlen : kvs.length = vs.length := Paired.length r
      exact wpAny_truthy_dict hS m (by omega) ⟨H, I.tok _, by rw [isEmpty_kv r]; exact q⟩
  | _ => exact (show False from e).elim
/-! ### strs and bytes -/
theorem op_add_str : OpR X (binaryOp .Add) (fun x y H Q => ∃ i j, x = .str i ∧ y = .str j ∧ i.length + j.length ≤ sizeLine ∧ Q (.str (i ++ j)) H) := by
  intro pins s σ H x y v u Q I rx ry h
  obtain ⟨i, j, rfl, rfl, hz, q⟩ := h
  obtain ⟨t, rfl⟩ := rx
  obtain ⟨t', rfl⟩ := ry
  exact add_str (fun t' tk => ⟨.str (i ++ j), H, I.tok _, ⟨_, rfl⟩, q⟩) hz
/-! ### scalar builtins, by CallR -/
theorem vals1 {x : V} {us : List Value} (r : Vals [x] us) : ∃ u, us = [u] ∧ RelV x u := by
  cases r with
  | cons r1 r2 => cases r2; exact ⟨_, rfl, r1⟩
theorem vals2 {x y : V} {us : List Value} (r : Vals [x, y] us) : ∃ u w', us = [u, w'] ∧ RelV x u ∧ RelV y w' := by
  cases r with
  | cons r1 r2 =>
    cases r2 with
    | cons r3 r4 => cases r4; exact ⟨_, _, rfl, r1, r3⟩
theorem call_abs : CallR X (.builtin "abs") (fun xs H Q => ∃ i, xs = [.int i] ∧ Q (.int (if i < 0 then -i else i)) H) := by
  intro pins s σ H xs us Q I r h
  obtain ⟨i, rfl, q⟩ := h
  obtain ⟨u, rfl, t, rfl⟩ := vals1 r
  exact call_abs_int fun u tk => ⟨.int (if i < 0 then -i else i), H, I.tok _, ⟨_, rfl⟩, q⟩
theorem call_max2 (hc : X.calm = true) : CallR X (.builtin "max") (fun xs H Q => ∃ i j, xs = [.int i, .int j] ∧ Q (.int (if j > i then j else i)) H) := by
  intro pins s σ H xs us Q I r h
  obtain ⟨i, j, rfl, q⟩ := h
  obtain ⟨u, w', rfl, ⟨t, rfl⟩, ⟨t', rfl⟩⟩ := vals2 r
  refine max_two_ints (I.ok.hd hc) fun h' tk k => ⟨_, H, I.kept k, ?_, q⟩
  by_cases hj : j > i
  · rw [if_pos hj, if_pos hj]; exact ⟨_, rfl⟩
  · rw [if_neg hj, if_neg hj]; exact ⟨_, rfl⟩
theorem call_min2 (hc : X.calm = true) : CallR X (.builtin "min") (fun xs H Q => ∃ i j, xs = [.int i, .int j] ∧ Q (.int (if j < i then j else i)) H) := by
  intro pins s σ H xs us Q I r h
  obtain ⟨i, j, rfl, q⟩ := h
  obtain ⟨u, w', rfl, ⟨t, rfl⟩, ⟨t', rfl⟩⟩ := vals2 r
  refine min_two_ints (I.ok.hd hc) fun h' tk k => ⟨_, H, I.kept k, ?_, q⟩
  by_cases hj : j < i
  · rw [if_pos hj, if_pos hj]; exact ⟨_, rfl⟩
  · rw [if_neg hj, if_neg hj]; exact ⟨_, rfl⟩
theorem call_int1 : CallR X (.type "int") (fun xs H Q => (∃ i, xs = [.int i] ∧ Q (.int i) H) ∨ ∃ k, xs = [.bl k] ∧ Q (.int (if k then 1 else 0)) H) := by
  intro pins s σ H xs us Q I r h
  rcases h with ⟨i, rfl, q⟩ | ⟨k, rfl, q⟩
  · obtain ⟨u, rfl, t, rfl⟩ := vals1 r
    exact call_int_int ⟨.int i, H, I, ⟨_, rfl⟩, q⟩
  · obtain ⟨u, rfl, r1⟩ := vals1 r
    cases r1
    exact call_int_bool ⟨.int (if k then 1 else 0), H, I.tok _, ⟨_, rfl⟩, q⟩
end
end L2

namespace L2
open PySem PySem.Spec PyProof.Rows

/-! ### an instance, its attributes a map -/
structure ObjM (h : Heap) (x dx C : Addr) (mA : Str → Option Value) : Prop where
  obj : h.get? x = some (PySem.W.instObj C dx)
  ns : h.Ns1 dx mA
  ne : dx ≠ x

theorem lookIn_ns {h : Heap} {dx : Addr} {mA : Str → Option Value} (n : h.Ns1 dx mA) : ∃ od, h.get? dx = some od ∧ ∀ name, PySem.W.lookIn name od = some (mA name) := by
  obtain ⟨o, es, ep, ho, hd, hk, _, hm⟩ := n
  refine ⟨o, ho, fun name => ?_⟩
  have e := hm name
  unfold nsFind findBy at e
  rw [← Array.find?_toList] at e
  unfold PySem.W.lookIn
  rw [hd]
  dsimp only
  split
  · rename_i y q
    rw [q] at e
    exact congrArg some e
  · rename_i q
    rw [q] at e
    have a : es.toList.any (·.refKey) = false := by
      rw [List.any_eq_false]
      intro y hy
      obtain ⟨z, t, hkey⟩ := hk y (Array.mem_toList_iff.mp hy)
      simp [DictEntry.refKey, hkey]
    have a' : ¬ es.toList.any (·.refKey) = true := by rw [a]; exact Bool.false_ne_true
    rw [if_neg a']
    exact congrArg some e

theorem ObjM.look {h : Heap} {x dx C : Addr} {mA : Str → Option Value} (I : ObjM h x dx C mA) : ∃ od, PySem.W.InstAt h x (PySem.W.instObj C dx) C (some od) ∧ ∀ name, PySem.W.lookIn name od = some (mA name) :=
  let ⟨od, ho, hl⟩ := lookIn_ns I.ns
  ⟨od, ⟨I.obj, rfl, rfl, ho⟩, hl⟩

section
variable {prog : Program} {w : World} {A : Around} {E : Value → Shared → Prop} {s : Shared} {K : PySem.W.Frag} {x dx C f : Addr} {mA : Str → Option Value} {name : Str} {v : Value}

end

/-! ### the attributes as a list of pairs -/
def putF (f : Str) (v : V) : List (Str × V) → List (Str × V)
  | [] => [(f, v)]
  | (g, x) :: r => if g = f then (g, v) :: r else (g, x) :: putF f v r
theorem lookup_putF (f g : Str) (v : V) : ∀ fs : List (Str × V), (putF f v fs).lookup g = if g = f then some v else fs.lookup g
  | [] => by
    show List.lookup g [(f, v)] = _
    by_cases h : g = f
    · have hb : (g == f) = true := beq_iff_eq.mpr h
      simp only [List.lookup, hb, if_pos h]
    · have hb : (g == f) = false := beq_eq_false_iff_ne.mpr h
      simp only [List.lookup, hb, if_neg h]
  | (k, x) :: r => by
    have ih := lookup_putF f g v r
    rw [show putF f v ((k, x) :: r) = (if k = f then (k, v) :: r else (k, x) :: putF f v r) from rfl]
    by_cases hk : k = f
    · rw [if_pos hk]
      by_cases h : g = k
      · have hb : (g == k) = true := beq_iff_eq.mpr h
        simp only [List.lookup, hb, if_pos (h.trans hk)]
      · have hb : (g == k) = false := beq_eq_false_iff_ne.mpr h
        simp only [List.lookup, hb, if_neg (fun e : g = f => h (e.trans hk.symm))]
    · rw [if_neg hk]
      by_cases h : g = k
      · have hb : (g == k) = true := beq_iff_eq.mpr h
        simp only [List.lookup, hb, if_neg (fun e : g = f => hk (h.symm.trans e))]
      · have hb : (g == k) = false := beq_eq_false_iff_ne.mpr h
        simp only [List.lookup, hb]
        exact ih
theorem RelO.some_of {v : V} {o : Option Value} (r : RelO (some v) o) : ∃ u, o = some u ∧ RelV v u := by
  cases o with
  | none => exact (show False from r).elim
  | some u => exact ⟨u, rfl, r⟩
theorem RelO.none_of {o : Option Value} (r : RelO none o) : o = none := by
  cases o with
  | none => rfl
  | some u => exact (show False from r).elim
section
variable {P : Program} {w : World} {H H' : Hp} {h h' : Heap} {a C dx : Addr} {fs fs' : List (Str × V)}
theorem ins_get (hok : HOk P w H h) (e : H a = some (.ins C dx fs)) : ∃ mA, ObjM h a dx C mA ∧ (∀ f, RelO (fs.lookup f) (mA f)) ∧ PySem.Within mA (fs.map (·.1)) ∧ fs.length ≤ 1000 ∧ H dx = some (.own a) := by
  obtain ⟨d, z, ne, ob, mA, n, r, q⟩ := (show ObjOk P w H h a (.ins C dx fs) from hok a _ e)
  exact ⟨mA, ⟨ob, n, ne⟩, r, q, z, d⟩
end

/-! ### what of the text a class must have -/
structure Cls (K : PySem.W.Frag) (C : Addr) : Prop where
  pg : PySem.W.plainGet K C Str.empty = true
  hd : PySem.W.hasDictIn K C = true
  po : PySem.W.plainOver K C = true
  sa : PySem.W.findIn K (.ref C) "__setattr__" = some (some (.builtin "object.__setattr__"))
theorem Cls.get {K : PySem.W.Frag} {C : Addr} (c : Cls K C) (f : Str) : PySem.W.plainGet K C f = true := c.pg
/-- a constant of the class -/
structure Con (K : PySem.W.Frag) (C : Addr) (f : Str) (v : V) (u : Value) : Prop where
  at_ : PySem.W.findIn K (.ref C) f = some (some u)
  rel : RelV v u
  get : PySem.W.specialIn K u "__get__" = some none
  cp : PySem.W.copiedNames.contains f = false
/-- a method: a plain def of the class or of one above it -/
structure Meth (K : PySem.W.Frag) (C : Addr) (m : Str) (f : Addr) : Prop where
  at_ : PySem.W.findIn K (.ref C) m = some (some (.ref f))
  fn : PySem.W.isFn K (.ref f) = true
  kp : PySem.W.keepIn K (.ref f) = true

section
variable {X : Cx} {pins : List (Addr × Obj)} {σ : St} {H : Hp} {s : Shared} {a C dx : Addr} {fs : List (Str × V)} {f : Str} {v : V} {A : Around} {E : Value → Shared → Prop}

/-- a new instance, tracked, without attributes -/
theorem Inv.made (I : Inv X pins σ H s) : Inv X pins σ (upd (upd H s.heap.objs.size (.own (s.heap.objs.size + 1))) (s.heap.objs.size + 1) (.ins C s.heap.objs.size []))
    { s with heap := (s.heap.push PySem.W.emptyDict).push (PySem.W.instObj C s.heap.objs.size) } := by
  have e1 : (s.heap.push PySem.W.emptyDict).get? s.heap.objs.size = some PySem.W.emptyDict := Heap.get?_push_size s.heap rfl
  have e2 : ((s.heap.push PySem.W.emptyDict).push (PySem.W.instObj C s.heap.objs.size)).get? (s.heap.objs.size + 1) = some (PySem.W.instObj C s.heap.objs.size) := by
    have := Heap.get?_push_size (s.heap.push PySem.W.emptyDict) (o := PySem.W.instObj C s.heap.objs.size) rfl
    rwa [Heap.size_push] at this
  have e3 : (s.heap.push PySem.W.emptyDict).Ns s.heap.objs.size (fun _ => none) := ⟨PySem.W.emptyDict, #[], _, e1, rfl, (fun e he => absurd he (by simp)), fun _ => rfl⟩
  have I1 := I.laid (a := s.heap.objs.size) (o := .own (s.heap.objs.size + 1)) (h' := s.heap.push PySem.W.emptyDict) (t' := s.toks) (fun b u q => Heap.get?_push_of_some _ q) (Nat.le_refl _) ⟨_, e1⟩
  refine I1.laid (a := s.heap.objs.size + 1) (o := .ins C s.heap.objs.size []) (t' := s.toks) (fun b u q => Heap.get?_push_of_some _ q) (Nat.le_of_eq (Heap.size_push _ _)) ?_
  have ne : s.heap.objs.size ≠ s.heap.objs.size + 1 := Nat.ne_of_lt (Nat.lt_succ_self _)
  refine ⟨by rw [upd_ne ne, upd_same], Nat.zero_le _, ne, e2, fun _ => none, (Heap.Ns1.of_empty e3).at fun o q => Heap.get?_push_of_some _ q, fun _ => True.intro, fun y hy => absurd rfl hy⟩

/-- e.f where nothing but the object is asked: through attributeBase (super) and the last hold -/
theorem attr_of {prog : Program} {w : World} {env : Env} {e : Expr} {f : Str} {pos : Pos} {s : Shared} {Q : Value → Shared → Prop} (hb : attributeBase e f env (eval e env) = eval e env)
    (h : wpAny (model prog w) A (eval e env) (fun o s₁ => wpAny (model prog w) A (getAttr o f true) Q E s₁) E s) : wpAny (model prog w) A (eval (.Attribute e f pos) env) Q E s :=
  Attribute_any_ h (by rw [arm_eval_Attribute, hb])
end

/-! ### readings and rules -/
section
variable {X : Cx} {o e value : Expr} {f : Str} {pos pos' tpos : Pos} {ta tv : TE}
end

/-! ### isinstance -/
section
variable {X : Cx} {pins : List (Addr × Obj)} {σ : St} {H : Hp} {s : Shared} {A : Around} {E : Value → Shared → Prop} {Q : Value → Shared → Prop} {c : Value} {b : Bool}
/-- the type of a value, as the fragment's deciders take it; for an instance its class -/
inductive TyOf (K : PySem.W.Frag) (H : Hp) : V → Value → Prop where
  | non : TyOf K H .non (.type "NoneType")
  | bl (x : Bool) : TyOf K H (.bl x) (.type "bool")
  | int (i : Int) : TyOf K H (.int i) (.type "int")
  | str (x : Str) : TyOf K H (.str x) (.type "str")
  | flt (x : UInt64) : TyOf K H (.flt x) (.type "float")
  | lst {a : Addr} {xs : List V} (e : H a = some (.lst xs)) : TyOf K H (.ref a) (.type "list")
  | frz {a : Addr} {o : Obj} {xs : List V} (e : H a = some (.frz o (.lst xs))) : TyOf K H (.ref a) (.type "list")
  | tup {a : Addr} {xs : List V} (e : H a = some (.tup xs)) : TyOf K H (.ref a) (.type "tuple")
  | dK {a : Addr} {kvs : List (Key × V)} (e : H a = some (.dK kvs)) : TyOf K H (.ref a) (.type "dict")
  | dT {a : Addr} {kvs : List (List Key × V)} (e : H a = some (.dT kvs)) : TyOf K H (.ref a) (.type "dict")
  | ins {a C dx : Addr} {fs : List (Str × V)} (e : H a = some (.ins C dx fs)) (cl : Cls K C) (ha : PySem.W.findIn K (.ref C) "__class__" = some (some (.builtin "object.__class__")))
      (hn : PySem.W.specialIn K (.builtin "object.__class__") "__get__" = some (some (.builtin "getset_descriptor.__get__"))) (htk : PySem.W.takesIn K (.builtin "object.__class__") = some true)
      (hm : PySem.W.mroIn K C (.type "object") = some true) : TyOf K H (.ref a) (.ref C)
/-- isinstance(x, c) for one class c, a built-in or an own one: kitOne's answer -/
theorem isinst_ok {x : V} {u t : Value} (I : Inv X pins σ H s) (rx : RelV x u) (ty : TyOf X.K H x t) (e : PySem.W.kitOne X.K t c = some b) (h : ∀ tk, Q (.bool b) { s with toks := tk }) :
    wpAny (model X.prog X.w) A (call (.builtin "isinstance") [u, c]) Q E s := by
  cases ty with
  | non => cases (show u = Value.none from rx); exact PySem.W.kia_one PySem.W.kitx_none I.kIn True.intro e (fun z => nomatch z) h
  | bl y => cases (show u = Value.bool y from rx); exact PySem.W.kia_one PySem.W.kitx_bool I.kIn True.intro e (fun z => nomatch z) h
  | int i => obtain ⟨t, q⟩ := (show ∃ t, u = Value.int i t from rx); cases q; exact PySem.W.kia_one PySem.W.kitx_int I.kIn True.intro e (fun z => nomatch z) h
  | str y => obtain ⟨t, q⟩ := (show ∃ t, u = Value.str y t from rx); cases q; exact PySem.W.kia_one PySem.W.kitx_str I.kIn True.intro e (fun z => nomatch z) h
  | flt y => obtain ⟨t, q⟩ := (show ∃ t, u = Value.float y t from rx); cases q; exact PySem.W.kia_one PySem.W.kitx_float I.kIn True.intro e (fun z => nomatch z) h
  | @lst a xs ea =>
    cases (show u = Value.ref a from rx)
    obtain ⟨_, _, n, _, h1⟩ := (show ObjOk X.prog X.w H s.heap a (.lst xs) from I.hok a _ ea)
    exact PySem.W.kia_one PySem.W.kitx_list I.kIn ⟨_, h1, rfl⟩ e (fun z => nomatch z) h
  | @frz a ob xs ea =>
    cases (show u = Value.ref a from rx)
    obtain ⟨_, _, _, n, _, h1⟩ := (show ObjOk X.prog X.w H s.heap a (.frz ob (.lst xs)) from I.hok a _ ea)
    exact PySem.W.kia_one PySem.W.kitx_list I.kIn ⟨_, h1, rfl⟩ e (fun z => nomatch z) h
  | @tup a xs ea =>
    cases (show u = Value.ref a from rx)
    obtain ⟨_, _, _, p⟩ := (show ObjOk X.prog X.w H s.heap a (.tup xs) from I.hok a _ ea)
    obtain ⟨o, h1, h2, _⟩ := p
    exact PySem.W.kia_one PySem.W.kitx_tuple I.kIn ⟨o, h1, h2⟩ e (fun z => nomatch z) h
  | @dK a kvs ea =>
    cases (show u = Value.ref a from rx)
    obtain ⟨_, _, vs, _, p⟩ := (show ObjOk X.prog X.w H s.heap a (.dK kvs) from I.hok a _ ea)
    obtain ⟨o, es, ep, h1, h2, _⟩ := p
    exact PySem.W.kia_one PySem.W.kitx_dict I.kIn ⟨o, h1, h2.1⟩ e (fun z => nomatch z) h
  | @dT a kvs ea =>
    cases (show u = Value.ref a from rx)
    obtain ⟨_, _, xs, _, o, es, ep, h1, h2, _⟩ := (show ObjOk X.prog X.w H s.heap a (.dT kvs) from I.hok a _ ea)
    exact PySem.W.kia_one PySem.W.kitx_dict I.kIn ⟨o, h1, h2.1⟩ e (fun z => nomatch z) h
  | @ins a C dx fs ea cl ha hn htk hm =>
    cases (show u = Value.ref a from rx)
    obtain ⟨mA, O, _⟩ := ins_get I.hok ea
    obtain ⟨od, J, _⟩ := O.look
    exact PySem.W.kia_one (PySem.W.kitx_own (cl.get _) cl.hd ha hn htk hm) I.kIn J e (fun z => nomatch z) h
end
end L2

namespace L2
open PySem PySem.Spec PyProof.Rows

/-! ### room -/
structure Room (k : Nat) (A : Around) : Prop where
  hd : A.handled = none
  dp : A.depth + 3 * k + 5 < recursionLimit
  un : A.units + 16 * k + 200 < cLine
theorem Room.mono {j k : Nat} {A : Around} (r : Room k A) (h : j ≤ k) : Room j A := ⟨r.hd, by have := r.dp; omega, by have := r.un; omega⟩
theorem Room.deeper {k : Nat} {A : Around} (r : Room (k + 1) A) (env : Env) : Room k (A.deeper env) :=
  ⟨r.hd, by have := r.dp; show A.depth + 1 + 3 * k + 5 < _; omega, by have := r.un; show A.units + 3 + 16 * k + 200 < _; omega⟩
theorem Room.in1 {k : Nat} {A : Around} (r : Room (k + 1) A) : Room k A.in1 :=
  ⟨r.hd, by have := r.dp; show A.depth + 3 * k + 5 < _; omega, by have := r.un; show A.units + 1 + 16 * k + 200 < _; omega⟩
theorem make_depth {A : Around} {C : Addr} {us : List Value} {kw : List (Str × Value)} : (A.under (.builtin "type.__call__" ⟨.ref C :: us, kw⟩)).depth = A.depth + 1 := by
  first | rfl | simp [Around.under, Code.weight, Code.isCreation, Code.isGuard, Code.isCaller, Code.frames, Code.isFrame, guardIds]
theorem make_units {A : Around} {C : Addr} {us : List Value} {kw : List (Str × Value)} : (A.under (.builtin "type.__call__" ⟨.ref C :: us, kw⟩)).units = A.units + 1 := by
  first | rfl | simp [Around.under, Code.cUnits, Code.frames, Code.isFrame]
theorem Room.make {k : Nat} {A : Around} (r : Room (k + 1) A) (C : Addr) (us : List Value) (kw : List (Str × Value)) : Room k (A.under (.builtin "type.__call__" ⟨.ref C :: us, kw⟩)) :=
  ⟨r.hd, by have := r.dp; rw [make_depth]; omega, by have := r.un; rw [make_units]; omega⟩
theorem Room.depth {k : Nat} {A : Around} (r : Room k A) : A.depth < recursionLimit := by have := r.dp; omega
theorem Room.units {k : Nat} {A : Around} (r : Room k A) : A.units + 64 < cLine := by have := r.un; omega
/-! ### argument lists and displays -/
section
variable {X : Cx} {e : Expr} {es : List Expr} {te : TE} {t : TA} {pos : Pos}
end

/-! ### what a def promises -/
/-- a def's promise: the bound arguments in the parameters' order, the heap, the wanted end, the wanted exception -/
abbrev Sp := List V → Hp → VK → XK → Prop
/-- how an exception lies behind a call (file 08 gives it): the callers' frames, abstract heap and state ahead of the call, the wish, the exception, the state -/
abbrev CXT := List Env → Hp → Shared → XK → Value → Shared → Prop

/-- the state at a call -/
structure Env0 (P : Program) (w : World) (K : PySem.W.Frag) (mg : Str → Option Value) (base : Heap) (A : Around) (outer : List Env) (s : Shared) (H : Hp) : Prop where
  frames : A.frames = some outer
  mod : Mod K mg base
  bs : ∀ b o, base.get? b = some o → s.heap.get? b = some o ∧ H b = none
  bsz : base.objs.size ≤ s.heap.objs.size
  funs : s.heap.FunFrames base outer
  frf : ∀ b ∈ frs outer, H b = none
  hok : HOk P w H s.heap
  bare : AllBare s.gens
/-- a call's end -/
def CE (outer : List Env) (P : Program) (w : World) (H : Hp) (s : Shared) (Q : VK) (u : Value) (s' : Shared) : Prop :=
  ∃ v H', s'.os = s.os ∧ AllBare s'.gens ∧ Un (frs outer) [] H H' s.heap s'.heap ∧ HOk P w H' s'.heap ∧ RelV v u ∧ Q v H'
def CR (CX : CXT) (outer : List Env) (P : Program) (w : World) (H : Hp) (s : Shared) (Q : VK) (E : XK) (r : Result) (s' : Shared) : Prop :=
  match r with
  | .ok (.ret u) => CE outer P w H s Q u s'
  | .ok _ => False
  | .error e => CX outer H s E e s'
structure FnOk (P : Program) (w : World) (K : PySem.W.Frag) (mg : Str → Option Value) (base : Heap) (CX : CXT) (k : Nat) (f : Addr) (fd : FuncData) (ps : List Str) (sp : Sp) : Prop where
  len : ∀ vs H Q E, sp vs H Q E → vs.length = ps.length
  run : ∀ (A : Around) (outer : List Env) (s : Shared) (H : Hp) (args : Args) (us : List Value) (vs : List V) (Q : VK) (E : XK), Room k A → Env0 P w K mg base A outer s H → BindsTo s fd args (ps.zip us) → Vals vs us → sp vs H Q E →
    codeAny (model P w) A (.call (.ref f) args) (CR CX outer P w H s Q E) s
theorem FnOk.mono {P : Program} {w : World} {K : PySem.W.Frag} {mg : Str → Option Value} {base : Heap} {CX : CXT} {j k : Nat} {f : Addr} {fd : FuncData} {ps : List Str} {sp : Sp} (F : FnOk P w K mg base CX j f fd ps sp) (h : j ≤ k) :
    FnOk P w K mg base CX k f fd ps sp := ⟨F.len, fun A outer s H args us vs Q E hr => F.run A outer s H args us vs Q E (hr.mono h)⟩
/-- a weaker promise -/
theorem FnOk.imp {P : Program} {w : World} {K : PySem.W.Frag} {mg : Str → Option Value} {base : Heap} {CX : CXT} {k : Nat} {f : Addr} {fd : FuncData} {ps : List Str} {sp sp' : Sp} (F : FnOk P w K mg base CX k f fd ps sp)
    (h : ∀ vs H Q E, sp' vs H Q E → sp vs H Q E) : FnOk P w K mg base CX k f fd ps sp' :=
  ⟨fun vs H Q E q => F.len vs H Q E (h _ _ _ _ q), fun A outer s H args us vs Q E hr he hb hv hs => F.run A outer s H args us vs Q E hr he hb hv (h _ _ _ _ hs)⟩

theorem Env0.make {P : Program} {w : World} {K : PySem.W.Frag} {mg : Str → Option Value} {base : Heap} {A : Around} {outer : List Env} {s : Shared} {H : Hp} (e : Env0 P w K mg base A outer s H) (C : Addr) (us : List Value) (kw : List (Str × Value)) :
    Env0 P w K mg base (A.under (.builtin "type.__call__" ⟨.ref C :: us, kw⟩)) outer s H := ⟨by first | exact e.frames | (simpa [Around.under, Code.envs, Code.isFrame, pushEnvs] using e.frames), e.mod, e.bs, e.bsz, e.funs, e.frf, e.hok, e.bare⟩
theorem Env0.in1 {P : Program} {w : World} {K : PySem.W.Frag} {mg : Str → Option Value} {base : Heap} {A : Around} {outer : List Env} {s : Shared} {H : Hp} (e : Env0 P w K mg base A outer s H) :
    Env0 P w K mg base A.in1 outer s H := ⟨e.frames, e.mod, e.bs, e.bsz, e.funs, e.frf, e.hok, e.bare⟩

section
variable {X : Cx} {pins : List (Addr × Obj)} {σ : St} {H : Hp} {s s' : Shared}
/-- from a body: what a callee wants -/
theorem Inv.env0 (I : Inv X pins σ H s) : Env0 X.prog X.w X.K X.mg X.base X.A X.stack s H :=
  ⟨I.ok.frames, I.ok.mod, I.bs, Nat.le_trans I.ok.bsz I.sz, I.stack, I.stkFree, I.hok, I.bare⟩
/-- behind a call -/
theorem Inv.after {Q : VK} {u : Value} (I : Inv X pins σ H s) (h : CE X.stack X.prog X.w H s Q u s') : EP X pins σ Q u s' := by
  obtain ⟨v, H', os, bare, un, hok, r, q⟩ := h
  obtain ⟨hh, g, d, t, os'⟩ := s'
  obtain rfl : os' = s.os := os
  exact ⟨v, H', I.call (h' := hh) (g' := g) (d' := d) (t' := t) (ch := []) un hok bare (fun b z => absurd z (by simp)), r, q⟩
end

/-! ### calls -/
/-- how the parameters are bound: us the positional arguments, kw the keywords' values by name, ds the defaults that fill up -/
def Binds (K : PySem.W.Frag) (fd : FuncData) (ps : List Str) (ds : List Value) : Prop :=
  ∀ (s : Shared) (us : List Value), K.In s.heap → (us ++ ds).length = ps.length → BindsTo s fd ⟨us, []⟩ (ps.zip (us ++ ds))
/-- every parameter is given -/
theorem Binds.all {K : PySem.W.Frag} {fd : FuncData} {ps : List Str} (h : ∀ us : List Value, us.length = ps.length → bindArgs fd ⟨us, []⟩ = pure (ps.zip us)) : Binds K fd ps [] := fun s us _ hl => by
  rw [List.append_nil] at hl ⊢
  exact .of_eq (h us hl)

/-- an exception of a callee reaches what this body wants of exceptions -/
def Passes (CX : CXT) (X : Cx) (E : XK) : Prop := ∀ (pins : List (Addr × Obj)) (σ : St) (H : Hp) (s : Shared) (e : Value) (s' : Shared), Inv X pins σ H s → CX X.stack H s E e s' → X.xe e s'

section
variable {X : Cx} {CX : CXT} {k : Nat} {f C : Addr} {fd : FuncData} {ps : List Str} {sp : Sp} {dvs : List V} {ds : List Value} {E : XK} {x m : Str} {p pos apos : Pos} {e o : Expr} {es : List Expr} {ta : TE} {t : TA}

/-- the callee runs -/
theorem run_fn {pins : List (Addr × Obj)} {σ : St} {H : Hp} {s : Shared} {Q : VK} {us : List Value} {vs : List V} (F : FnOk X.prog X.w X.K X.mg X.base CX k f fd ps sp) (hr : Room k X.A) (hb : Binds X.K fd ps ds) (hd : Vals dvs ds) (hx : Passes CX X E)
    (I : Inv X pins σ H s) (r : Vals vs us) (h : sp (vs ++ dvs) H Q E) : wpAny (model X.prog X.w) X.A (call (.ref f) us) (EP X pins σ Q) X.xe s := by
  have r2 : Vals (vs ++ dvs) (us ++ ds) := r.append hd
  have hl : (us ++ ds).length = ps.length := by rw [← r2.length]; exact F.len _ _ _ _ h
  refine wpAny_call (codeAny_mono (F.run X.A X.stack s H ⟨us, []⟩ (us ++ ds) (vs ++ dvs) Q E hr I.env0 (hb s us I.kIn hl) r2 h) fun r s' hq => ?_)
  cases r with
  | error e => exact hx pins σ H s e s' I hq
  | ok fl =>
    cases fl with
    | ret u => exact I.after hq
    | next => exact False.elim hq
    | brk => exact False.elim hq
    | cont => exact False.elim hq

/-- what a class must have to be made -/
structure Mk (K : PySem.W.Frag) (C f : Addr) : Prop where
  makes : PySem.W.makesIn K C = true
  init : PySem.W.findIn K (.ref C) "__init__" = some (some (.ref f))
  fn : PySem.W.isFn K (.ref f) = true
  kp : PySem.W.keepIn K (.ref C) = true

end

/-! ### keywords -/
section
variable {X : Cx} {CX : CXT} {k : Nat} {f C : Addr} {fd : FuncData} {ps ks : List Str} {sp : Sp} {E : XK} {x m : Str} {p pos apos kpos : Pos} {e o : Expr} {es : List Expr} {kws : List Keyword} {te ta : TE} {t tk : TA} {nm : Option Str}
/-- how a call with keywords binds: g puts the positional values us and the keywords' values ws (names ks) in the parameters' order, defaults among them -/
structure KBinds (K : PySem.W.Frag) (fd : FuncData) (ps ks : List Str) (g : List Value → List Value → List Value) (gV : List V → List V → List V) : Prop where
  to : ∀ (s : Shared) (us ws : List Value), K.In s.heap → (g us ws).length = ps.length → BindsTo s fd ⟨us, ks.zip ws⟩ (ps.zip (g us ws))
  rel : ∀ {vs : List V} {us : List Value} {zs : List V} {ws : List Value}, Vals vs us → Vals zs ws → Vals (gV vs zs) (g us ws)
variable {g : List Value → List Value → List Value} {gV : List V → List V → List V}
end

/-! ### a def's body keeps its promise -/
/-- names: the parameters first -/
structure FnScope (N P : List Str) (sc : Scope) : Prop where
  kind : sc.kind = .function
  co : sc.isCoroutine = false
  gen : sc.isGenerator = false
  nd : N.Nodup
  pre : N.take P.length = P
  par : ∀ x ∈ P, sc.names.lookup x = some .local ∨ sc.names.lookup x = some .cell
  nofree : ∀ y ∈ sc.names, y.2 ≠ .free

theorem bindL_out {kindOf : Str → Option NameKind} {x : Str} : ∀ {binds : List (Str × Value)} {m : Str → Option Value}, (∀ v, (x, v) ∉ binds) → bindL kindOf binds m x = m x
  | [], _, _ => rfl
  | (n, v) :: r, m, h => by
    unfold bindL
    rw [bindL_out fun w hw => h w (List.mem_cons_of_mem _ hw)]
    split
    · have : x ≠ n := by rintro rfl; exact h v List.mem_cons_self
      simp [this]
    · rfl
theorem bindC_out {kindOf : Str → Option NameKind} {x : Str} : ∀ {binds : List (Str × Value)} {m : Str → Option Value}, (∀ v, (x, v) ∉ binds) → bindC kindOf binds m x = m x
  | [], _, _ => rfl
  | (n, v) :: r, m, h => by
    unfold bindC
    rw [bindC_out fun w hw => h w (List.mem_cons_of_mem _ hw)]
    split
    · rfl
    · have : x ≠ n := by rintro rfl; exact h v List.mem_cons_self
      simp [this]
theorem bindL_get {kindOf : Str → Option NameKind} {x : Str} {v : Value} : ∀ {P : List Str} {vs : List Value} {i : Nat} {m : Str → Option Value}, P.Nodup → P[i]? = some x → vs[i]? = some v → kindOf x = some .local →
    bindL kindOf (P.zip vs) m x = some v
  | [], _, _, _, _, h, _, _ => by simp at h
  | _ :: _, [], _, _, _, _, h, _ => by simp at h
  | p :: P, w :: vs, 0, m, nd, h1, h2, hk => by
    simp at h1 h2; subst h1; subst h2
    show bindL kindOf ((p, w) :: P.zip vs) m p = _
    unfold bindL
    rw [bindL_out fun v hv => (List.nodup_cons.mp nd).1 (List.of_mem_zip hv).1, if_pos hk]
    simp
  | p :: P, w :: vs, i + 1, m, nd, h1, h2, hk => by
    show bindL kindOf ((p, w) :: P.zip vs) m x = _
    unfold bindL
    exact bindL_get (i := i) (List.nodup_cons.mp nd).2 (by simpa using h1) (by simpa using h2) hk
theorem bindC_get {kindOf : Str → Option NameKind} {x : Str} {v : Value} : ∀ {P : List Str} {vs : List Value} {i : Nat} {m : Str → Option Value}, P.Nodup → P[i]? = some x → vs[i]? = some v → kindOf x ≠ some .local →
    bindC kindOf (P.zip vs) m x = some v
  | [], _, _, _, _, h, _, _ => by simp at h
  | _ :: _, [], _, _, _, _, h, _ => by simp at h
  | p :: P, w :: vs, 0, m, nd, h1, h2, hk => by
    simp at h1 h2; subst h1; subst h2
    show bindC kindOf ((p, w) :: P.zip vs) m p = _
    unfold bindC
    rw [bindC_out fun v hv => (List.nodup_cons.mp nd).1 (List.of_mem_zip hv).1, if_neg hk]
    simp
  | p :: P, w :: vs, i + 1, m, nd, h1, h2, hk => by
    show bindC kindOf ((p, w) :: P.zip vs) m x = _
    unfold bindC
    exact bindC_get (i := i) (List.nodup_cons.mp nd).2 (by simpa using h1) (by simpa using h2) hk

/-- the names' values at the entry -/
def start (N : List Str) (vs : List V) : St := vs.map some ++ List.replicate (N.length - vs.length) none

/-- the context of a def's body, at its entry; an exception leaves the frame, then lies as CX says -/
def cxOf (CX : CXT) (P : Program) (w : World) (K : PySem.W.Frag) (mg : Str → Option Value) (base : Heap) (N : List Str) (qual : Str) (scope : Scope) (f : Addr) (cd : Value) (A : Around) (outer : List Env) (s : Shared) (H : Hp) (E : XK) : Cx where
  prog := P
  w := w
  K := K
  mg := mg
  base := base
  A := A.deeper (envOfC qual scope s.heap.objs.size f cd)
  N := N
  s₀ := s
  H₀ := H
  env := envOfC qual scope s.heap.objs.size f cd
  outer := outer
  stack := envOfC qual scope s.heap.objs.size f cd :: outer
  ex := []
  calm := true
  fn := fun _ => true
  pn := []
  xe := fun e s' => wpAny (model P w) (A.deeper (envOfC qual scope s.heap.objs.size f cd)) (leaving (envOfC qual scope s.heap.objs.size f cd) e) (fun _ s'' => CX outer H s E e s'') (fun e' s'' => CX outer H s E e' s'') s'

theorem cell_has {sc : Scope} {n : Nat} {x : Str} (h : sc.names.lookup x = some .cell) : ∃ c, (cellsFrom n sc.names []).lookup x = some c := by
  have q := PySem.W.cellsFrom_some sc.names n [] (.inl h)
  exact Option.isSome_iff_exists.mp q

theorem inv_start {CX : CXT} {P : Program} {w : World} {K : PySem.W.Frag} {mg : Str → Option Value} {base : Heap} {N ps : List Str} {qual : Str} {scope : Scope} {f : Addr} {cd : Value} {A : Around} {outer : List Env} {s s1 : Shared} {H : Hp} {E : XK} {us : List Value} {vs : List V}
    (S : FnScope N ps scope) (hd : A.handled = none) (e0 : Env0 P w K mg base A outer s H) (hl : vs.length = ps.length) (r : Vals vs us)
    (x : InCallC s s.heap.objs.size (bindL (envOfC qual scope s.heap.objs.size f cd).kindOf (ps.zip us) fun _ => none) (cellsFrom (s.heap.objs.size + 1) scope.names []) (bindC (envOfC qual scope s.heap.objs.size f cd).kindOf (ps.zip us) fun _ => none) s1) :
    Inv (cxOf CX P w K mg base N qual scope f cd A outer s H E) [] (start N vs) H s1 := by
  have hpl : ps.length ≤ N.length := by have := congrArg List.length S.pre; rw [List.length_take] at this; omega
  obtain ⟨h1, tk, rfl, hk⟩ := x.done
  have noA : ∀ b : Addr, b ∉ (cxOf CX P w K mg base N qual scope f cd A outer s H E).ex := fun b z => absurd (show b ∈ ([] : List Addr) from z) (by simp)
  refine ⟨⟨e0.mod, S.kind, rfl, rfl, Nat.le_refl _, fun y z c h1 h2 => ?_, fun y hy => ?_, fun y c _ h => ?_, fun _ => hd, Around.frames_deeper e0.frames, .inr ⟨rfl, rfl⟩, fun b z => absurd z (noA b), e0.bs, e0.bsz, fun b _ _ => noA b, fun b z => absurd z (noA b), e0.funs, e0.frf⟩,
    rfl, e0.bare, Un.kept hk, ⟨_, x.toInCall.ns, fun i y v h1 h2 h3 => ?_⟩, fun y c h => ⟨_, x.cell y c h⟩, e0.hok.fresh (Nat.le_refl _), fun y c h => ?_, fun p hp => absurd (show p ∈ ([] : List (Addr × Obj)) from hp) (by simp), e0.hok.kept hk, ?_⟩
  · exact name_of_addr x.apart (PySem.mem_of_lookup h1) (PySem.mem_of_lookup h2)
  · have hy : scope.names.lookup y = some .cell ∨ scope.names.lookup y = some .free := hy
    rcases hy with hy | hy
    · exact cell_has hy
    · exact absurd rfl (S.nofree _ (PySem.mem_of_lookup hy))
  · exact Nat.le_of_lt (x.above y c (PySem.mem_of_lookup h))
  · have hi : i < vs.length := by
      unfold start at h2
      by_cases hi : i < vs.length
      · exact hi
      · rw [List.getElem?_append_right (by simpa using hi)] at h2
        rw [List.getElem?_replicate] at h2
        split at h2 <;> cases h2
    have ha : vs[i]? = some v := by
      unfold start at h2
      rw [List.getElem?_append_left (by simpa using hi), List.getElem?_map] at h2
      cases e : vs[i]? with
      | none => rw [e] at h2; cases h2
      | some a => rw [e] at h2; cases h2; rfl
    obtain ⟨u, hu, rv⟩ := r.get ha
    have hp : ps[i]? = some y := by
      rw [← S.pre, List.getElem?_take_of_lt (by omega)]; exact h1
    have ndP : ps.Nodup := by rw [← S.pre]; exact S.nd.sublist (List.take_sublist _ _)
    refine ⟨u, rv, ?_⟩
    rcases S.par y (List.mem_of_getElem? hp) with k | k
    · exact .inl ⟨k, bindL_get ndP hp hu k⟩
    · obtain ⟨c, e⟩ := cell_has (n := s.heap.objs.size + 1) k
      refine .inr ⟨.inl k, c, e, ?_⟩
      have q := x.cell y c e
      rw [bindC_get ndP hp hu (by show scope.names.lookup y ≠ _; rw [k]; decide)] at q
      exact q
  · exact e0.hok.fresh (Nat.le_of_lt (x.above y c (PySem.mem_of_lookup h)))
  · unfold start
    show _ = N.length
    rw [List.length_append, List.length_map, List.length_replicate]
    omega

/-- THE RULE: a def (or a method) of the text, by its body. The body's reading t is chosen for each entry; it is run at the parameters' values -/
theorem fn_of {CX : CXT} {P : Program} {w : World} {K : PySem.W.Frag} {mg : Str → Option Value} {base : Heap} {k : Nat} {f : Addr} {name qual : Str} {params : Arguments} {body : List Stmt} {scope : Scope} {dV kV doc pm cdv ct oc : Value} {an od : Option Addr}
    {osl : Array (Option Value)} {N ps : List Str} {sp : Sp} (lk : K.lookup f = some ⟨oc, od, .func (PySem.W.fnOf name qual params body scope dV kV doc pm an cdv ct), osl⟩) (hcd : PySem.W.codeIn K cdv qual = true) (S : FnScope N ps scope)
    (len : ∀ vs H Q E, sp vs H Q E → vs.length = ps.length)
    (hbody : ∀ (A : Around) (outer : List Env) (s : Shared) (H : Hp) (vs : List V) (Q : VK) (E : XK), Room k (A.deeper (envOfC qual scope s.heap.objs.size f cdv)) → sp vs H Q E →
      ∃ t, PSs (cxOf CX P w K mg base N qual scope f cdv A outer s H E) body t ∧ t { nx := fun _ H' => Q .non H', rt := Q } (start N vs) H) :
    FnOk P w K mg base CX (k + 1) f (PySem.W.fnOf name qual params body scope dV kV doc pm an cdv ct) ps sp := by
  refine ⟨len, fun A outer s H args us vs Q E hr e0 hb r hsp => ?_⟩
  have hl := len _ _ _ _ hsp
  have KX : K.In s.heap := e0.mod.kin.keeps fun b o e => (e0.bs b o e).1
  have lim : s.heap.NoLimit := e0.mod.nolimit.keeps fun b o e => (e0.bs b o e).1
  have hkind : ∀ y ∈ ps.zip us, scope.names.lookup y.1 = some .local ∨ (scope.names.lookup y.1 = some .cell ∧ ((cellsFrom (s.heap.objs.size + 1) scope.names []).lookup y.1).isSome = true) := fun ⟨n, v⟩ hy => by
    rcases S.par n (List.of_mem_zip hy).1 with q | q
    · exact .inl q
    · exact .inr ⟨q, PySem.W.cellsFrom_some _ _ _ (.inl q)⟩
  refine codeAny_call_function hr.depth (KX _ _ lk) rfl S.co S.gen rfl (PySem.W.codeRec_of KX hcd) (hb _ _ _ _ ?_)
  refine wpAny_newFunctionEnv_cells S.kind hkind fun env he s1 x => ?_
  subst he
  refine ⟨lim.keeps x.toInCall.keep, codeAny_func ?_⟩
  obtain ⟨t, ht, hq⟩ := hbody A outer s H vs Q E (hr.deeper _) hsp
  have I : Inv (cxOf CX P w K mg base N qual scope f cdv A outer s H E) [] (start N vs) H s1 := inv_start S hr.hd e0 hl r x
  refine wpAny_mono (ht [] s1 (start N vs) H _ I hq) (fun fl s' hs => ?_) fun e s' hs => hs
  have fin : ∀ {σ' : St} {H' : Hp} {v : V} {u : Value}, Inv (cxOf CX P w K mg base N qual scope f cdv A outer s H E) [] σ' H' s' → RelV v u → Q v H' → CE outer P w H s Q u s' :=
    fun {σ' H' v u} J rv q => ⟨v, H', J.os, J.bare, J.base, J.hok, rv, q⟩
  cases fl with
  | ret u =>
    obtain ⟨v, σ', H', J, rv, q⟩ := hs
    exact fin J rv q
  | next =>
    obtain ⟨σ', H', J, q⟩ := hs
    exact fin (v := V.non) (u := Value.none) J rfl q
  | brk =>
    obtain ⟨_, _, _, q⟩ := hs
    exact False.elim q
  | cont =>
    obtain ⟨_, _, _, q⟩ := hs
    exact False.elim q
end L2

namespace L2
open PySem PySem.Spec PyProof.Rows
section
variable {X : Cx} {x : Str} {p pos : Pos} {e : Expr} {es : List Expr} {t : TA} {id T : String} {r : List V → Hp → VK → Prop}

end
end L2

namespace HT
open PySem PyProof.Rows

section
open PySem.SeqAt
open PySem.AutoSeq1 (wpAny_loadPart')
open PySem.MeetsSeq PySem.MeetsSeq2 PySem.MeetsSeq3

end

section
variable {prog : Program} {w : World} {A : Around} {E : Value → Shared → Prop} {s : Shared}

/-- t + u, t not empty -/
theorem cat_tup {t b : Addr} {vs ws : List Value} {Q : Value → Shared → Prop} (ht : IsTup s.heap t vs.toArray) (hb : IsTup s.heap b ws.toArray) (hv : vs ≠ [])
    (h1 : ws = [] → Q (.ref t) s) (h2 : ws ≠ [] → Q (.ref s.heap.objs.size) { s with heap := s.heap.push { cls := .type "tuple", data := .seq (vs ++ ws).toArray } })
    (hsz : vs.length + ws.length ≤ sizeLine) : wpAny (model prog w) A (binaryOp .Add (.ref t) (.ref b)) Q E s := by
  obtain ⟨⟨cls, dd, data, sl⟩, ho, hc, n, hd⟩ := id ht
  obtain ⟨⟨cls2, dd2, data2, sl2⟩, ho2, hc2, n2, hd2⟩ := id hb
  simp only at hc hd hc2 hd2
  subst hc hd hc2 hd2
  have e : vs.toArray ++ ws.toArray = (vs ++ ws).toArray := by simp
  by_cases hw : ws = []
  · exact concat_meets ⟨_, ho, rfl⟩ ⟨_, ho2, rfl⟩ noFill_tuple_add seq_tuple_add PySem.F.slot_tuple_add PySem.F.entry_tuple_add (PySem.F.args_tuple_add_2 _ _)
      (tuple_addW1 t b vs.toArray ws.toArray n n2 dd dd2 sl sl2 (by simpa using hv) (by simp [hw])) ⟨ho, ho2, h1 hw⟩
  · refine concat_meets ⟨_, ho, rfl⟩ ⟨_, ho2, rfl⟩ noFill_tuple_add seq_tuple_add PySem.F.slot_tuple_add PySem.F.entry_tuple_add (PySem.F.args_tuple_add_2 _ _)
      (tuple_addW2 t b vs.toArray ws.toArray n n2 dd dd2 sl sl2 (by simpa using hv) (by simpa using hw) (by rw [List.size_toArray, List.size_toArray]; exact hsz)) ⟨ho, ho2, ?_⟩
    rw [e]
    exact h2 hw

/-! ### t[a:b], not the whole -/
/-- a slice's bound as a place among n (d where it is left out) -/
def sIx (n d : Nat) : Option Int → Nat
  | none => d
  | some v => if v < 0 then (v + (n : Int)).toNat else min v.toNat n
theorem sIx_nat (n d k : Nat) : sIx n d (some (k : Int)) = min k n := by
  show (if (k : Int) < 0 then ((k : Int) + (n : Int)).toNat else min (k : Int).toNat n) = min k n
  rw [if_neg (by omega), Int.toNat_natCast]
end
end HT

namespace L2
open PySem PySem.Spec PyProof.Rows

/-! ### the parts of a slice -/
abbrev TO := St → Hp → (Option Int → Hp → Prop) → Prop
section
variable {X : Cx} {e : Expr} {te : TE} {lo hi : Option Expr} {tl th : TO} {pos p2 : Pos}

/-- what a slice of a value is, by values: the slice object stands at sl -/
def SlR (X : Cx) (r : V → Option Int → Option Int → Hp → VK → Prop) : Prop :=
  ∀ (pins : List (Addr × Obj)) (s : Shared) (σ : St) (H : Hp) (x : V) (v vl vu : Value) (lo hi : Option Int) (sl : Addr) (Q : VK), Inv X pins σ H s → RelV x v → s.heap.IsSliceOf sl vl vu .none → IsPart vl lo → IsPart vu hi → r x lo hi H Q →
    ∃ T id, typeLookup (.type T) "__getitem__" = pure (some (.builtin id)) ∧ s.TypeIs v T ∧ wpAny (model X.prog X.w) X.A (getItem v (.ref sl)) (EP X pins σ Q) X.xe s
theorem SlR.or {r r' : V → Option Int → Option Int → Hp → VK → Prop} (h : SlR X r) (h' : SlR X r') : SlR X (fun x lo hi H Q => r x lo hi H Q ∨ r' x lo hi H Q) := by
  intro pins s σ H x v vl vu lo hi sl Q I rx hs pl pu q
  rcases q with q | q
  · exact h pins s σ H x v vl vu lo hi sl Q I rx hs pl pu q
  · exact h' pins s σ H x v vl vu lo hi sl Q I rx hs pl pu q
/-- the items of xs[lo:hi] -/
def cutV (xs : List V) (lo hi : Option Int) : List V := (xs.drop (HT.sIx xs.length 0 lo)).take (HT.sIx xs.length xs.length hi - HT.sIx xs.length 0 lo)
theorem cutV_length (xs : List V) (lo hi : Option Int) : (cutV xs lo hi).length ≤ xs.length := by
  unfold cutV
  rw [List.length_take, List.length_drop]
  omega
/-! ### t < u, t + u -/
/-- t + u, t not empty: u empty gives t itself -/
def rCatT (K : PySem.W.Frag) : R2 := fun x y H Q => ∃ a b xs ys, x = .ref a ∧ y = .ref b ∧ SqT K H a xs ∧ SqT K H b ys ∧ xs ≠ [] ∧ xs.length + ys.length ≤ sizeLine ∧
  (ys = [] → Q (.ref a) H) ∧ (ys ≠ [] → ∀ p, H p = none → Q (.ref p) (upd H p (.tup (xs ++ ys))))
theorem Vals.nil_iff {xs : List V} {us : List Value} (r : Vals xs us) : us = [] ↔ xs = [] := by
  cases r with
  | nil => simp
  | cons _ _ => simp
theorem op_catT : OpR X (binaryOp .Add) (rCatT X.K) := by
  intro pins s σ H x y v u Q I rx ry h
  obtain ⟨a, b, xs, ys, rfl, rfl, ha, hb, hx, hz, q1, q2⟩ := h
  cases rx
  cases ry
  obtain ⟨its, r1, p1, _⟩ := I.tuple ha
  obtain ⟨its2, r2, p2, _⟩ := I.tuple hb
  refine HT.cat_tup p1 p2 (fun z => hx (r1.nil_iff.mp z)) (fun z => ⟨.ref a, H, I, rfl, q1 (r2.nil_iff.mp z)⟩) (fun z => ?_) (by rw [← r1.length, ← r2.length]; exact hz)
  refine ⟨.ref s.heap.objs.size, _, I.laid (t' := s.toks) (o := .tup (xs ++ ys)) (fun b ob q => Heap.get?_push_of_some _ q) (Nat.le_refl _) ?_, rfl, q2 (fun w => z (r2.nil_iff.mpr w)) _ (I.hok.fresh (Nat.le_refl _))⟩
  exact ⟨by rw [List.length_append]; exact hz, _, r1.append r2, IsTup.new _ _⟩
end
end L2

namespace L2
open PySem PySem.Spec PyProof.Rows

/-! ### places -/
/-- the place that an index of any sign means -/
def ixN (n : Nat) (i : Int) : Option Nat := if 0 ≤ i then (if i < n then some i.toNat else none) else if -(n : Int) ≤ i then some (i + n).toNat else none
def atI {α : Type} (xs : List α) (i : Int) : Option α := (ixN xs.length i).bind fun j => xs[j]?
theorem ixN_seq {n : Nat} {i : Int} {j : Nat} (h : ixN n i = some j) : seqIndex? i n = some j ∧ j < n ∧ -(n : Int) ≤ i ∧ i < n := by
  unfold ixN at h
  by_cases h0 : 0 ≤ i
  · rw [if_pos h0] at h
    by_cases h1 : i < n
    · rw [if_pos h1] at h
      have e : i.toNat = j := Option.some.inj h
      exact ⟨by rw [seqIndex_of h0 h1, e], by omega, by omega, h1⟩
    · rw [if_neg h1] at h; cases h
  · rw [if_neg h0] at h
    by_cases h1 : -(n : Int) ≤ i
    · rw [if_pos h1] at h
      have e : (i + n).toNat = j := Option.some.inj h
      exact ⟨by rw [seqIndex_neg (by omega) h1, e], by omega, h1, by omega⟩
    · rw [if_neg h1] at h; cases h
theorem atI_get {α : Type} {xs : List α} {i : Int} {v : α} (h : atI xs i = some v) : ∃ j, seqIndex? i xs.length = some j ∧ xs[j]? = some v ∧ j < xs.length ∧ -(xs.length : Int) ≤ i ∧ i < xs.length := by
  unfold atI at h
  cases e : ixN xs.length i with
  | none => rw [e] at h; cases h
  | some j =>
    rw [e] at h
    obtain ⟨h1, h2, h3, h4⟩ := ixN_seq e
    exact ⟨j, h1, h, h2, h3, h4⟩
theorem atI_nat {α : Type} {xs : List α} {j : Nat} {v : α} (h : xs[j]? = some v) : atI xs (j : Int) = some v := by
  have hj : j < xs.length := (List.getElem?_eq_some_iff.mp h).1
  have e : ixN xs.length (j : Int) = some j := by
    unfold ixN
    rw [if_pos (by omega), if_pos (by omega)]; simp
  unfold atI; rw [e]; exact h
/-! ### what may be subscripted -/
/-- what stands as an index of a plain subscript -/
def PlainIx (b : Expr) : Prop := ∀ o i, subscripted b false o i = operate [o, i] (getItem o i)
/-- a subscript by values -/
def IxR (X : Cx) (r : R2) : Prop :=
  ∀ (value slice : Expr) (pins : List (Addr × Obj)) (s : Shared) (σ : St) (H : Hp) (x y : V) (v u : Value) (Q : VK), Inv X pins σ H s → RelV x v → RelV y u → r x y H Q →
    subscripted slice false v u = operate [v, u] (getItem v u) → wpAny (model X.prog X.w) X.A (subscriptTail value slice v u) (EP X pins σ Q) X.xe s
/-- a call of a builtin's method by values: the receiver, the arguments -/
def MtR (X : Cx) (id : String) (r : V → List V → Hp → VK → Prop) : Prop :=
  ∀ (pins : List (Addr × Obj)) (s : Shared) (σ : St) (H : Hp) (x : V) (xs : List V) (v : Value) (us : List Value) (Q : VK), Inv X pins σ H s → RelV x v → Vals xs us → r x xs H Q →
    wpAny (model X.prog X.w) X.A (call (.builtin id) (v :: us)) (EP X pins σ Q) X.xe s
section
variable {X : Cx} {a b : Expr} {ta tb : TE} {pos : Pos}
theorem IxR.or {r r' : R2} (h : IxR X r) (h' : IxR X r') : IxR X (fun x y H Q => r x y H Q ∨ r' x y H Q) := by
  intro value slice pins s σ H x y v u Q I rx ry q hs
  rcases q with q | q
  · exact h value slice pins s σ H x y v u Q I rx ry q hs
  · exact h' value slice pins s σ H x y v u Q I rx ry q hs
theorem MtR.or {id : String} {r r' : V → List V → Hp → VK → Prop} (h : MtR X id r) (h' : MtR X id r') : MtR X id (fun x xs H Q => r x xs H Q ∨ r' x xs H Q) := by
  intro pins s σ H x xs v us Q I rx rs q
  rcases q with q | q
  · exact h pins s σ H x xs v us Q I rx rs q
  · exact h' pins s σ H x xs v us Q I rx rs q
def rIxL (K : PySem.W.Frag) : R2 := fun x y H Q => ∃ p xs i v, x = .ref p ∧ y = .int i ∧ SqL K H p xs ∧ atI xs i = some v ∧ Q v H
def rIxT (K : PySem.W.Frag) : R2 := fun x y H Q => ∃ p xs i v, x = .ref p ∧ y = .int i ∧ SqT K H p xs ∧ atI xs i = some v ∧ Q v H
def rIxS : R2 := fun x y H Q => ∃ z i c, x = .str z ∧ y = .int i ∧ z.length ≤ sizeLine ∧ atI z.cps.toList i = some c ∧ Q (.str ⟨#[c]⟩) H
theorem ix_list : IxR X (rIxL X.K) := by
  intro value slice pins s σ H x y v u Q I rx ry h hs
  obtain ⟨p, xs, i, z, rfl, rfl, hq, he, q⟩ := h
  cases rx
  obtain ⟨t, rfl⟩ := ry
  obtain ⟨its, r, pl, hz⟩ := I.list hq
  obtain ⟨j, h1, h2, h3, h4, h5⟩ := atI_get he
  obtain ⟨w, ew, rw'⟩ := r.get h2
  have hl := r.length
  have hn := line63
  have fin : EP X pins σ Q w s := ⟨z, H, I, rw', q⟩
  by_cases h0 : 0 ≤ i
  · have hj : i.toNat = j := by
      rw [seqIndex_of h0 h5] at h1
      exact Option.some.inj h1
    exact item_listR pl.isList h0 (by omega) (by rw [hj]; simpa using ew) fin hs
  · have hj : (i + (its.toArray.size : Int)).toNat = j := by
      rw [seqIndex_neg (by omega) h4] at h1
      rw [List.size_toArray, ← hl]
      exact Option.some.inj h1
    exact subscriptTail_builtinR (x := w) pl.isList.typeIs slot_list_getitem.lookup
      (wpAny_getItem_list_neg (Q := fun r s' => r = w ∧ EP X pins σ Q r s') pl.isList (by omega) (by rw [List.size_toArray] <;> omega) (by omega) (by rw [hj]; simpa using ew) ⟨rfl, fin⟩) hs
theorem ix_tup : IxR X (rIxT X.K) := by
  intro value slice pins s σ H x y v u Q I rx ry h hs
  obtain ⟨p, xs, i, z, rfl, rfl, hq, he, q⟩ := h
  cases rx
  obtain ⟨t, rfl⟩ := ry
  obtain ⟨its, r, pl, hz⟩ := I.tuple hq
  obtain ⟨j, h1, h2, h3, h4, h5⟩ := atI_get he
  obtain ⟨w, ew, rw'⟩ := r.get h2
  have hl := r.length
  have hn := line63
  have fin : EP X pins σ Q w s := ⟨z, H, I, rw', q⟩
  exact subscriptTail_builtinR (x := w) pl.typeIs slot_tuple_getitem.lookup
    (getItem_tuple (j := j) (Q := fun r s' => r = w ∧ EP X pins σ Q r s') pl (by omega) (by omega) (by rw [List.size_toArray, ← hl]; exact h1) (by simpa using ew) ⟨rfl, fin⟩) hs
theorem ix_str : IxR X rIxS := by
  intro value slice pins s σ H x y v u Q I rx ry h hs
  obtain ⟨z, i, c, rfl, rfl, hz, he, q⟩ := h
  obtain ⟨t, rfl⟩ := rx
  obtain ⟨t', rfl⟩ := ry
  obtain ⟨j, h1, h2, h3, h4, h5⟩ := atI_get he
  have hl : z.cps.toList.length = z.length := by simp [Str.length]
  rw [hl] at h1 h4 h5
  have hn := line63
  exact tail_any (typeIs_str s z t) slot_str_getitem.lookup (getItem_str (c := c) (by
    have e1 : decide (i < -(2 ^ 63 : Int)) = false := decide_eq_false (by omega)
    have e2 : decide (i ≥ 2 ^ 63) = false := decide_eq_false (by omega)
    rw [e1, e2, Bool.or_false]) (by rw [h1]; simpa using h2) ⟨.str ⟨#[c]⟩, H, I.tok _, ⟨_, rfl⟩, q⟩) hs
/-- list, tuple or str -/
def rIx (K : PySem.W.Frag) : R2 := fun x y H Q => rIxL K x y H Q ∨ rIxT K x y H Q ∨ rIxS x y H Q
theorem ix_seq : IxR X (rIx X.K) := ix_list.or (ix_tup.or ix_str)

/-! ### xs[i] = v, any sign -/
/-- the list's object behind a store -/
theorem mapSeq_set (its : List Value) (n j : Nat) (u : Value) : Obj.mapSeq (·.setIfInBounds j u) { cls := .type "list", data := .seq its.toArray n } = { cls := .type "list", data := .seq (its.set j u).toArray n } := by
  simp [Obj.mapSeq]
theorem Inv.lst {pins : List (Addr × Obj)} {σ : St} {H : Hp} {s : Shared} {p : Addr} {xs : List V} (I : Inv X pins σ H s) (h : H p = some (.lst xs)) :
    ∃ (its : List Value) (n : Nat), Vals xs its ∧ s.heap.get? p = some { cls := .type "list", data := .seq its.toArray n } ∧ xs.length ≤ sizeLine := by
  obtain ⟨z, its, n, r, e⟩ := I.hok p _ h
  exact ⟨its, n, r, e, z⟩
/-- the list at p is written by an update of its object -/
theorem Inv.lstUpd {pins : List (Addr × Obj)} {σ : St} {H : Hp} {s : Shared} {p : Addr} {xs ys : List V} {its its' : List Value} {n n' : Nat} {f : Obj → Obj} (I : Inv X pins σ H s) (h : H p = some (.lst xs))
    (ho : s.heap.get? p = some { cls := .type "list", data := .seq its.toArray n }) (hf : f { cls := .type "list", data := .seq its.toArray n } = { cls := .type "list", data := .seq its'.toArray n' }) (r : Vals ys its') (hz : ys.length ≤ sizeLine) (t : Nat) :
    Inv X pins σ (upd H p (.lst ys)) { s with heap := s.heap.update p f, toks := t } := by
  have e : (s.heap.update p f).get? p = some { cls := .type "list", data := .seq its'.toArray n' } := by
    rw [Heap.get?_update_self f ho (by rw [hf] <;> rfl), hf]
  refine I.write (x := p) (e := p) (by rw [h]; trivial) (.inl rfl) (fun b u hb q => (Heap.get?_update_other _ _ (Ne.symm hb)).trans q) ⟨_, e⟩ ?_
  exact ⟨hz, its', n', r, e⟩
def rSetL : V → V → V → Hp → (Hp → Prop) → Prop := fun o i v H Q => ∃ p xs k j, o = .ref p ∧ i = .int k ∧ H p = some (.lst xs) ∧ ixN xs.length k = some j ∧ Q (upd H p (.lst (xs.set j v)))
theorem set_list : PSet X rSetL := by
  intro pins s σ H o i v ov iv u Q I ro ri rv h
  obtain ⟨p, xs, k, j, rfl, rfl, hp, hj, q⟩ := h
  cases ro
  obtain ⟨t, rfl⟩ := ri
  obtain ⟨its, n, r, ho, hz⟩ := I.lst hp
  obtain ⟨h1, h2, h3, h4⟩ := ixN_seq hj
  have hl := r.length
  have hn := line63
  have I' : Inv X pins σ (upd H p (.lst (xs.set j v))) { s with heap := s.heap.update p (Obj.mapSeq (·.setIfInBounds j u)) } :=
    I.lstUpd hp ho (mapSeq_set its n j u) (r.set rv j) (by rw [List.length_set]; exact hz) s.toks
  by_cases h0 : 0 ≤ k
  · have hk : k.toNat = j := by
      rw [seqIndex_of h0 h4] at h1
      exact Option.some.inj h1
    exact PySem.W.ki_setAt ho h0 (by omega) (by rw [List.size_toArray, ← hl]; exact h4) (by rw [hk]; exact ⟨_, I', q⟩)
  · have hk : (k + (its.toArray.size : Int)).toNat = j := by
      rw [seqIndex_neg (by omega) h3] at h1
      rw [List.size_toArray, ← hl]
      exact Option.some.inj h1
    exact PySem.W.ki_setBack ho (by omega) (by rw [List.size_toArray, ← hl]; exact h3) (by omega) (by rw [hk]; exact ⟨_, I', q⟩)

/-! ### slices -/
theorem slice_bounds (lo hi : Option Int) (n : Nat) : (sliceBounds lo hi none n).1 = ((HT.sIx n 0 lo : Nat) : Int) ∧ (sliceBounds lo hi none n).2.1 = ((HT.sIx n n hi : Nat) : Int) ∧ (sliceBounds lo hi none n).2.2 = 1 := by
  refine ⟨?_, ?_, rfl⟩
  · cases lo with
    | none => simp [sliceBounds, HT.sIx]
    | some i =>
      simp only [sliceBounds, HT.sIx, Option.getD_none, show (1 : Int) > 0 by decide, if_true]
      by_cases h : i < 0
      · simp only [h, if_true] <;> omega
      · simp only [h, if_false] <;> omega
  · cases hi with
    | none => simp [sliceBounds, HT.sIx]
    | some i =>
      simp only [sliceBounds, HT.sIx, Option.getD_none, show (1 : Int) > 0 by decide, if_true]
      by_cases h : i < 0
      · simp only [h, if_true] <;> omega
      · simp only [h, if_false] <;> omega
theorem slicePick_cut (its : List Value) (lo hi : Option Int) : slicePick its.toArray lo hi none = ((its.drop (HT.sIx its.length 0 lo)).take (HT.sIx its.length its.length hi - HT.sIx its.length 0 lo)).toArray := by
  obtain ⟨h1, h2, h3⟩ := slice_bounds lo hi its.toArray.size
  unfold slicePick
  rw [h1, h2, h3]
  simp only [sliceRange_one, pick_run, List.size_toArray] <;> rfl
/-- xs[lo:hi] of a list: a new list -/
def rSlL (K : PySem.W.Frag) : V → Option Int → Option Int → Hp → VK → Prop := fun x lo hi H Q => ∃ a xs, x = .ref a ∧ SqL K H a xs ∧ ∀ p, H p = none → Q (.ref p) (upd H p (.lst (cutV xs lo hi)))
theorem sl_list : SlR X (rSlL X.K) := by
  intro pins s σ H x v vl vu lo hi sl Q I rx hs pl pu h
  obtain ⟨a, xs, rfl, hx, q⟩ := h
  cases rx
  obtain ⟨its, r, ht, hz⟩ := I.list hx
  have hlen := r.length
  refine ⟨"list", _, slot_list_getitem.lookup, ht.isList.typeIs, ?_⟩
  refine wpAny_getItem_list_slice ht.isList hs pl pu .none (by simp) ?_ (by rw [List.size_toArray] <;> omega)
  rw [slicePick_cut, ← hlen]
  refine ⟨.ref s.heap.objs.size, _, I.laid (t' := s.toks) (o := .lst (cutV xs lo hi)) (fun b ob q => Heap.get?_push_of_some _ q) (Nat.le_refl _) ?_, rfl, q _ (I.hok.fresh (Nat.le_refl _))⟩
  exact ⟨Nat.le_trans (cutV_length xs lo hi) hz, _, 0, (r.drop (HT.sIx xs.length 0 lo)).take (HT.sIx xs.length xs.length hi - HT.sIx xs.length 0 lo), Heap.get?_push_size _ rfl⟩

/-! ### in, not in: flat items -/
def flatV : V → Bool
  | .non => true
  | .bl _ => true
  | .int _ => true
  | .str _ => true
  | _ => false
/-- == of flat values -/
def eqV : V → V → Bool
  | .non, .non => true
  | .bl a, .bl b => a == b
  | .bl a, .int b => (if a then 1 else 0) == b
  | .int a, .bl b => a == (if b then 1 else 0)
  | .int a, .int b => a == b
  | .str a, .str b => a == b
  | _, _ => false
theorem eqAt_V {A : Around} {s : Shared} {y x : V} {u v : Value} (ry : RelV y u) (rx : RelV x v) (fy : flatV y = true) (fx : flatV x = true) : SeqAt.EqAt A s u v (eqV y x) := by
  cases y with
  | non =>
    cases ry
    cases x with
    | non => cases rx; exact SeqAt.EqAt.same _
    | bl b => cases rx; exact SeqAt.EqAt.none_bool b
    | int b => obtain ⟨t, rfl⟩ := rx; exact SeqAt.EqAt.none_int b t
    | str b => obtain ⟨t, rfl⟩ := rx; exact SeqAt.EqAt.none_str b t
    | _ => exact absurd (show false = true from fx) Bool.false_ne_true
  | bl a =>
    cases ry
    cases x with
    | non => cases rx; exact SeqAt.EqAt.bool_none a
    | bl b => cases rx; exact SeqAt.EqAt.bool_bool a b
    | int b => obtain ⟨t, rfl⟩ := rx; exact SeqAt.EqAt.bool_int a b t
    | str b => obtain ⟨t, rfl⟩ := rx; exact SeqAt.EqAt.bool_str a b t
    | _ => exact absurd (show false = true from fx) Bool.false_ne_true
  | int a =>
    obtain ⟨t', rfl⟩ := ry
    cases x with
    | non => cases rx; exact SeqAt.EqAt.int_none a t'
    | bl b => cases rx; exact SeqAt.EqAt.int_bool a t' b
    | int b => obtain ⟨t, rfl⟩ := rx; exact SeqAt.EqAt.int_int a t' b t
    | str b => obtain ⟨t, rfl⟩ := rx; exact SeqAt.EqAt.int_str a t' b t
    | _ => exact absurd (show false = true from fx) Bool.false_ne_true
  | str a =>
    obtain ⟨t', rfl⟩ := ry
    cases x with
    | non => cases rx; exact SeqAt.EqAt.str_none a t'
    | bl b => cases rx; exact SeqAt.EqAt.str_bool a t' b
    | int b => obtain ⟨t, rfl⟩ := rx; exact SeqAt.EqAt.str_int a t' b t
    | str b => obtain ⟨t, rfl⟩ := rx; exact SeqAt.EqAt.str_str a t' b t
    | _ => exact absurd (show false = true from fx) Bool.false_ne_true
  | _ => exact absurd (show false = true from fy) Bool.false_ne_true
/-- the items' answers, read off the values (a value's own answer does not lean on its token) -/
def eqU (x : V) (u : Value) : Bool := match u with
  | .none => eqV .non x
  | .bool b => eqV (.bl b) x
  | .int i _ => eqV (.int i) x
  | .str z _ => eqV (.str z) x
  | _ => false
theorem eqU_of {x y : V} {u : Value} (r : RelV y u) (f : flatV y = true) : eqU x u = eqV y x := by
  cases y with
  | non => cases r; rfl
  | bl b => cases r; rfl
  | int i => obtain ⟨t, rfl⟩ := r; rfl
  | str z => obtain ⟨t, rfl⟩ := r; rfl
  | _ => exact absurd (show false = true from f) Bool.false_ne_true
theorem any_eqU {x : V} : ∀ {xs : List V} {us : List Value}, Vals xs us → xs.all flatV = true → us.any (eqU x) = xs.any fun y => eqV y x
  | _, _, .nil, _ => rfl
  | y :: xs, u :: us, .cons r t, f => by
    rw [List.all_cons, Bool.and_eq_true] at f
    rw [List.any_cons, List.any_cons, eqU_of r f.1, any_eqU t f.2]
theorem mem_eqAt {A : Around} {s : Shared} {x : V} {v : Value} (rx : RelV x v) (fx : flatV x = true) : ∀ {xs : List V} {us : List Value}, Vals xs us → xs.all flatV = true → ∀ u ∈ us, SeqAt.EqAt A s u v (eqU x u)
  | _, _, .nil, _ => fun u hu => by cases hu
  | y :: xs, u :: us, .cons r t, f => fun u' hu => by
    rw [List.all_cons, Bool.and_eq_true] at f
    rcases List.mem_cons.mp hu with rfl | hu
    · rw [eqU_of r f.1]; exact eqAt_V r rx f.1 fx
    · exact mem_eqAt rx fx t f.2 u' hu
def inV (x : V) (xs : List V) : Bool := xs.any fun y => eqV y x
/-- x in a list or tuple of flat items -/
def rIn (K : PySem.W.Frag) (neg : Bool) : R2 := fun x y H Q => ∃ p xs, y = .ref p ∧ (SqL K H p xs ∨ SqT K H p xs) ∧ flatV x = true ∧ xs.all flatV = true ∧ Q (.bl (if neg then !inV x xs else inV x xs)) H
theorem op_in_seq : OpR X (compareOp .In) (rIn X.K false) := by
  intro pins s σ H x y v u Q I rx ry h
  obtain ⟨p, xs, rfl, hq, fx, fs, q⟩ := h
  cases ry
  rcases hq with hq | hq
  · obtain ⟨its, r, pl, hz⟩ := I.list hq
    refine SeqAt.in_listAt (eqU x) pl.isList (fun w hw => mem_eqAt rx fx r fs w (by simpa using hw)) ⟨.bl _, H, I, rfl, ?_⟩
    rw [show its.toArray.any (eqU x) = its.any (eqU x) by simp, any_eqU r fs]
    exact q
  · obtain ⟨its, r, pl, hz⟩ := I.tuple hq
    refine SeqAt.in_tupleAt (eqU x) pl (fun w hw => mem_eqAt rx fx r fs w (by simpa using hw)) ⟨.bl _, H, I, rfl, ?_⟩
    rw [show its.toArray.any (eqU x) = its.any (eqU x) by simp, any_eqU r fs]
    exact q
theorem op_notIn_seq : OpR X (compareOp .NotIn) (rIn X.K true) := by
  intro pins s σ H x y v u Q I rx ry h
  obtain ⟨p, xs, rfl, hq, fx, fs, q⟩ := h
  cases ry
  rcases hq with hq | hq
  · obtain ⟨its, r, pl, hz⟩ := I.list hq
    refine SeqAt.notIn_listAt (eqU x) pl.isList (fun w hw => mem_eqAt rx fx r fs w (by simpa using hw)) ⟨.bl _, H, I, rfl, ?_⟩
    rw [show its.toArray.any (eqU x) = its.any (eqU x) by simp, any_eqU r fs]
    exact q
  · obtain ⟨its, r, pl, hz⟩ := I.tuple hq
    refine SeqAt.notIn_tupleAt (eqU x) pl (fun w hw => mem_eqAt rx fx r fs w (by simpa using hw)) ⟨.bl _, H, I, rfl, ?_⟩
    rw [show its.toArray.any (eqU x) = its.any (eqU x) by simp, any_eqU r fs]
    exact q
/-! ### len, list(x), tuple(x) of any list or tuple that is read -/
theorem call_len_seq : CallR X (.builtin "len") (fun xs H Q => ∃ p ys, xs = [.ref p] ∧ (SqL X.K H p ys ∨ SqT X.K H p ys) ∧ Q (.int ys.length) H) := by
  intro pins s σ H xs us Q I r h
  obtain ⟨p, ys, rfl, hq, q⟩ := h
  obtain ⟨u, rfl, rx⟩ := vals1 r
  cases rx
  have hn := line63
  rcases hq with hq | hq
  · obtain ⟨its, r', pl, hz⟩ := I.list hq
    have hlen := r'.length
    exact Calls.call_len_list pl.isList (by simp only [List.size_toArray] <;> omega) ⟨.int ys.length, H, I.tok _, ⟨s.toks + 1, by rw [List.size_toArray, hlen]⟩, q⟩
  · obtain ⟨its, r', pl, hz⟩ := I.tuple hq
    have hlen := r'.length
    exact len_tuple pl (by simp only [List.size_toArray] <;> omega) ⟨.int ys.length, H, I.tok _, ⟨s.toks + 1, by rw [List.size_toArray, hlen]⟩, q⟩
theorem CallR.or {f : Value} {r r' : List V → Hp → VK → Prop} (h : CallR X f r) (h' : CallR X f r') : CallR X f (fun xs H Q => r xs H Q ∨ r' xs H Q) := by
  intro pins s σ H xs us Q I rs q
  rcases q with q | q
  · exact h pins s σ H xs us Q I rs q
  · exact h' pins s σ H xs us Q I rs q
theorem call_list_of : CallR X (.type "list") (fun xs H Q => ∃ p ys, xs = [.ref p] ∧ (SqL X.K H p ys ∨ SqT X.K H p ys) ∧ ∀ l, H l = none → Q (.ref l) (upd H l (.lst ys))) := by
  intro pins s σ H xs us Q I r h
  obtain ⟨p, ys, rfl, hq, q⟩ := h
  obtain ⟨u, rfl, rx⟩ := vals1 r
  cases rx
  have fin : ∀ (its : List Value), Vals ys its → ys.length ≤ sizeLine → ∀ (h' : Heap) (c' : Nat), (∀ b o', s.heap.get? b = some o' → h'.get? b = some o') →
      h'.get? s.heap.objs.size = some { cls := .type "list", dict := none, data := .seq its.toArray c', slots := #[] } → EP X pins σ Q (.ref s.heap.objs.size) { s with heap := h' } := fun its r' hz h' c' kp e =>
    ⟨.ref s.heap.objs.size, _, I.laid (t' := s.toks) kp (Nat.le_refl _) (show ObjOk X.prog X.w _ h' _ (.lst ys) from ⟨hz, its, c', r', e⟩), rfl, q _ (I.hok.fresh (Nat.le_refl _))⟩
  rcases hq with hq | hq
  · obtain ⟨its, r', pl, hz⟩ := I.list hq
    have hlen := r'.length
    obtain ⟨o, ho, hc, n, hd⟩ := pl.isList
    exact call_list_seq p (.inl rfl) ho hc hd (fun h' c' kp e => fin its r' hz h' c' kp e) (by simp only [List.size_toArray] <;> omega)
  · obtain ⟨its, r', pl, hz⟩ := I.tuple hq
    have hlen := r'.length
    obtain ⟨o, ho, hc, n, hd⟩ := pl
    exact call_list_seq p (.inr rfl) ho hc hd (fun h' c' kp e => fin its r' hz h' c' kp e) (by simp only [List.size_toArray] <;> omega)
theorem call_tuple_of : CallR X (.type "tuple") (fun xs H Q => ∃ p ys, xs = [.ref p] ∧ ((SqL X.K H p ys ∧ ∀ l, H l = none → Q (.ref l) (upd H l (.tup ys))) ∨ (SqT X.K H p ys ∧ Q (.ref p) H))) := by
  intro pins s σ H xs us Q I r h
  obtain ⟨p, ys, rfl, h⟩ := h
  obtain ⟨u, rfl, rx⟩ := vals1 r
  cases rx
  rcases h with ⟨hq, q⟩ | ⟨hq, q⟩
  · obtain ⟨its, r', pl, hz⟩ := I.list hq
    have hlen := r'.length
    refine call_tuple_list pl.isList (fun h' kp => ?_) (by simp only [List.size_toArray] <;> omega)
    have I1 : Inv X pins σ H { s with heap := h' } := I.kept (t' := s.toks) kp
    have I2 : Inv X pins σ (upd H h'.objs.size (.tup ys)) { s with heap := h'.push { cls := .type "tuple", data := .seq its.toArray } } :=
      I1.laid (t' := s.toks) (fun b o e => Heap.get?_push_of_some _ e) (Nat.le_refl _) (show ObjOk X.prog X.w _ _ _ (.tup ys) from ⟨hz, its, r', IsTup.new _ _⟩)
    exact ⟨.ref h'.objs.size, _, I2, rfl, q _ (I1.hok.fresh (Nat.le_refl _))⟩
  · obtain ⟨its, r', pl, hz⟩ := I.tuple hq
    exact call_tuple_same pl ⟨.ref p, H, I, rfl, q⟩

/-! ### the call of a builtin's method: o.m(..) -/
/-- the value is of that builtin type -/
def tyV (K : PySem.W.Frag) (T : String) (x : V) (H : Hp) : Prop := match x with
  | .str _ => T = "str"
  | .int _ => T = "int"
  | .ref p => (T = "list" ∧ ∃ xs, SqL K H p xs) ∨ (T = "tuple" ∧ ∃ o, K.lookup p = some o ∧ o.cls = .type "tuple" ∧ o.dict = none) ∨
      (T = "dict" ∧ ((∃ kvs, H p = some (.dK kvs)) ∨ ∃ kvs, H p = some (.dT kvs))) ∨ (T = "set" ∧ ∃ S n, H p = some (.set S n))
  | _ => False
theorem tyV_is {pins : List (Addr × Obj)} {σ : St} {H : Hp} {s : Shared} {T : String} {x : V} {v : Value} (I : Inv X pins σ H s) (r : RelV x v) (ty : tyV X.K T x H) :
    s.TypeIs v T ∧ ∀ a, v = .ref a → ∃ ob, s.heap.get? a = some ob ∧ ob.dict = none := by
  cases x with
  | str z =>
    obtain ⟨t, rfl⟩ := r
    cases (show T = "str" from ty)
    exact ⟨typeIs_str s z t, fun _ e => nomatch e⟩
  | int i =>
    obtain ⟨t, rfl⟩ := r
    cases (show T = "int" from ty)
    exact ⟨typeIs_int s i t, fun _ e => nomatch e⟩
  | ref p =>
    cases r
    rcases ty with ⟨rfl, xs, hq⟩ | ⟨rfl, o, hk, hc, hd⟩ | ⟨rfl, hk⟩ | ⟨rfl, S, n, hk⟩
    · obtain ⟨its, _, pl, _⟩ := I.list hq
      refine ⟨pl.isList.typeIs, fun a e => ?_⟩
      cases e
      obtain ⟨o, n, e, c, hd, _⟩ := pl
      exact ⟨o, e, hd⟩
    · refine ⟨⟨o, I.kIn p o hk, hc⟩, fun a e => ?_⟩
      cases e
      exact ⟨o, I.kIn _ o hk, hd⟩
    · have z : ∃ o, s.heap.get? p = some o ∧ o.ExactDict := by
        rcases hk with ⟨kvs, hk⟩ | ⟨kvs, hk⟩
        · obtain ⟨_, _, _, _, o, _, _, e, ex, _⟩ := I.hok p _ hk
          exact ⟨o, e, ex⟩
        · obtain ⟨_, _, _, _, o, _, _, e, ex, _⟩ := I.hok p _ hk
          exact ⟨o, e, ex⟩
      obtain ⟨o, e, ex⟩ := z
      refine ⟨⟨o, e, ex.1⟩, fun a e2 => ?_⟩
      cases e2
      exact ⟨o, e, ex.2.1⟩
    · obtain ⟨o, _, _, _, e, ex, _⟩ := I.hok p _ hk
      refine ⟨⟨o, e, ex.1⟩, fun a e2 => ?_⟩
      cases e2
      exact ⟨o, e, ex.2.1⟩
  | _ => exact False.elim ty
def tBM (K : PySem.W.Frag) (T : String) (r : V → List V → Hp → VK → Prop) (to : TE) (t : TA) : TE := fun σ H Q => to σ H fun x H1 => tyV K T x H1 ∧ t σ H1 fun xs H2 => r x xs H2 Q
variable {o e : Expr} {es : List Expr} {to : TE} {t : TA} {name : Str} {apos cpos : Pos} {T id : String} {r : V → List V → Hp → VK → Prop}
theorem pe_bm (pa : PlainAttrs T) (slot : Slot T name id) (hty : typeOf (.builtin id) = pure (.type "method_descriptor")) (hm : MtR X id r) (ho : PE X o to) (ha : PA X (e :: es) t)
    (hbase : attributeBase o name X.env (eval o X.env) = eval o X.env := by rfl)
    (hfew : ((backTo cpos (starEach (e :: es) X.env)).all (fun x => !x.1) && (backToKw cpos (keywordEach [] X.env)).all (fun x => x.1.isSome)
      && decide ((e :: es).length + ([] : List Keyword).length + (if ([] : List Keyword).isEmpty then 0 else 1) < 30)) = true := by rfl)
    (hline : (apos.endLine == cpos.line) = true := by rfl) (hs : starEach (e :: es) X.env = (false, eval e X.env) :: starEach es X.env := by rfl) (hplain : (backTo cpos (starEach es X.env)).any (·.1) = false := by rfl) :
    PE X (.Call (.Attribute o name apos) (e :: es) [] cpos) (tBM X.K T r to t) := by
  intro pins s σ H Q I h
  refine wpAny_Call_method_late hbase hfew hline rfl (thn (ho pins s σ H _ I h) fun v s1 ⟨x, H1, I1, r1, ty, q1⟩ => ?_)
  obtain ⟨h1, h2⟩ := tyV_is I1 r1 ty
  refine ⟨T, id, pa, slot, hty, h1, h2, ?_⟩
  have hA := ha cpos pins s1 σ H1 _ I1 q1
  rw [hs] at hA ⊢
  refine Calls.callWith_builtin (by show (false || (backTo cpos (starEach es X.env)).any (·.1)) = false; rw [hplain] <;> rfl) (Calls.evalArgs_plain ?_)
  exact thn hA fun us s2 ⟨vs, H2, I2, r2, q2⟩ => hm pins s2 σ H2 x vs v us Q I2 r1 r2 q2
/- xs.append(e), list.index on a module's tuple .. are MtR facts of 06m -/
end
end L2

namespace L2
open PySem PySem.Spec PyProof.Rows

def MtM (X : Cx) (id : String) (r : V → List V → Hp → VK → Prop) : Prop :=
  ∀ (pins : List (Addr × Obj)) (s : Shared) (σ : St) (H : Hp) (x : V) (xs : List V) (v : Value) (us : List Value) (Q : VK), Inv X pins σ H s → RelV x v → Vals xs us → r x xs H Q →
    wpAny (model X.prog X.w) X.A (call (.builtin id) (v :: us)) (EP X pins σ Q) X.xe s

/-! ### lists of values -/
theorem Vals.one : ∀ {x : V} {us : List Value}, Vals [x] us → ∃ u, us = [u] ∧ RelV x u
  | _, _, .cons r .nil => ⟨_, rfl, r⟩
theorem Vals.two : ∀ {x y : V} {us : List Value}, Vals [x, y] us → ∃ u v, us = [u, v] ∧ RelV x u ∧ RelV y v
  | _, _, _, .cons r (.cons q .nil) => ⟨_, _, rfl, r, q⟩
section
variable {X : Cx} {pins : List (Addr × Obj)} {σ : St} {H : Hp} {s : Shared} {l b : Addr} {xs ys zs : List V}

/-! ### the two steps: a tracked list is rewritten, a new list is laid -/
theorem Inv.lset {its its' : List Value} {n : Nat} {f : Array Value → Array Value} {t' : Nat} (I : Inv X pins σ H s) (hH : H l = some (.lst xs))
    (e : s.heap.get? l = some { cls := .type "list", data := .seq its.toArray n }) (hf : f its.toArray = its'.toArray) (hv : Vals ys its') (hz : ys.length ≤ sizeLine) :
    Inv X pins σ (upd H l (.lst ys)) { s with heap := s.heap.update l (Obj.mapSeq f), toks := t' } := by
  have q := PySem.IsL.update e f
  rw [hf] at q
  refine I.write (x := l) (e := l) (by rw [hH]; exact trivial) (.inl rfl) (fun b' u hb hu => (Heap.get?_update_other s.heap (Obj.mapSeq f) (Ne.symm hb)).trans hu) ⟨_, q⟩ ?_
  exact ⟨hz, its', _, hv, q⟩
theorem Inv.lnew {its : List Value} {t' : Nat} (I : Inv X pins σ H s) (hv : Vals ys its) (hz : ys.length ≤ sizeLine) :
    Inv X pins σ (upd H s.heap.objs.size (.lst ys)) { s with heap := s.heap.push { cls := .type "list", data := .seq its.toArray }, toks := t' } :=
  I.laid (fun _ _ q => Heap.get?_push_of_some _ q) (Nat.le_refl _) ⟨hz, its, 0, hv, Heap.get?_push_size _ rfl⟩
theorem Inv.fresh (I : Inv X pins σ H s) : H s.heap.objs.size = none := I.hok.fresh (Nat.le_refl _)
theorem Inv.lstM (I : Inv X pins σ H s) (hH : H l = some (.lst xs)) : xs.length ≤ sizeLine ∧ ∃ (its : List Value) (n : Nat), Vals xs its ∧ xs.length = its.length ∧ s.heap.get? l = some { cls := .type "list", data := .seq its.toArray n } := by
  obtain ⟨z, its, n, r, e⟩ := I.hok l _ hH
  exact ⟨z, its, n, r, r.length, e⟩

end

section
variable {X : Cx}

/-! ### methods -/
def rAppend : V → List V → Hp → VK → Prop := fun x vs H Q => ∃ l xs y, x = .ref l ∧ vs = [y] ∧ H l = some (.lst xs) ∧ xs.length < sizeLine ∧ Q .non (upd H l (.lst (xs ++ [y])))
theorem mt_append : MtM X "list.append" rAppend := by
  intro pins s σ H x vs v us Q I rx rv h
  obtain ⟨l, xs, y, rfl, rfl, hH, hz, q⟩ := h
  cases rx
  obtain ⟨u, rfl, ru⟩ := rv.one
  obtain ⟨z, its, n, r, hl, e⟩ := I.lstM hH
  refine call_meets F.slot_list_append ⟨_, e, rfl⟩ F.entry_list_append (F.args_list_append_2 _ _) (PySem.list_append l its.toArray n u (by rw [List.size_toArray]; omega)) ⟨e, ?_⟩
  refine ⟨.non, _, I.lset (its' := its ++ [u]) hH e (by simp) (r.append (.cons ru .nil)) ?_, rfl, q⟩
  rw [List.length_append, List.length_singleton]
  omega

/-! ### list + list, list += list, list * int -/
def rCat : R2 := fun x y H Q => ∃ l b xs zs, x = .ref l ∧ y = .ref b ∧ H l = some (.lst xs) ∧ H b = some (.lst zs) ∧ xs.length + zs.length ≤ sizeLine ∧ ∀ p, H p = none → Q (.ref p) (upd H p (.lst (xs ++ zs)))
theorem op_cat : OpR X (binaryOp .Add) rCat := by
  intro pins s σ H x y v u Q I rx ry h
  obtain ⟨l, b, xs, zs, rfl, rfl, hH, hB, hz, q⟩ := h
  cases rx
  cases ry
  obtain ⟨z, its, n, r, hl, e⟩ := I.lstM hH
  obtain ⟨z2, its2, n2, r2, hl2, e2⟩ := I.lstM hB
  refine PySem.P.add_list e e2 ?_ (by rw [List.size_toArray, List.size_toArray]; omega)
  have ea : its.toArray ++ its2.toArray = (its ++ its2).toArray := by simp
  rw [ea]
  exact ⟨.ref _, _, I.lnew (t' := s.toks) (r.append r2) (by rw [List.length_append]; omega), rfl, q _ I.fresh⟩
/-! ### del xs[i] -/
end

/-! ### xs[a:b] = ys -/
section
variable {prog : Program} {w : World} {A : Around} {E : Value → Shared → Prop} {s : Shared}
end

section
variable {X : Cx}
end
end L2

namespace Att
open PySem PySem.W PySem.Calls PyProof.Rows

/-! ### the script -/
theorem ints_of_wellAll {P : Params} {h : Heap} : ∀ (ns : List Int) (vs : List Value), WellAll P h vs (ns.map WData.int) → IntsAre vs ns := by
  intro ns
  induction ns with
  | nil =>
    intro vs w
    rw [List.map_nil] at w
    cases w
    exact .nil
  | cons n ns ih =>
    intro vs w
    rw [List.map_cons] at w
    cases w with
    | cons a b =>
      cases a
      exact .cons _ _ (ih _ b)

theorem script_of {l : OpenLaw} {n : Nat} (hn : l.most = some n) {P : Params} {h : Heap} {args : List WData} {vals : List Value}
    (hpre : l.row.toRowW.claim.pre args = true) (hwl : WellAll P h vals args) :
    ∃ a vs ns, vals = [Value.ref a] ∧ args = [WData.list (ns.map WData.int)] ∧ h.get? a = some { cls := .type "list", data := .seq vs.toArray } ∧ IntsAre vs ns ∧ ns.length ≤ n := by
  have hsh : WShape.hasAll [] args [.list .int] = true := (pre_splitW hpre).1
  have hc : l.pre.holds [] { args := args } = true := (pre_splitW hpre).2
  obtain ⟨d, r, rfl, h1, h2⟩ := hasAllW_cons hsh
  obtain rfl := hasAllW_nil h2
  obtain ⟨xs, rfl, h3⟩ := hasW_list h1
  obtain ⟨ns, rfl⟩ := items_int h3
  have hlen : ns.length ≤ n := by
    unfold OpenLaw.pre at hc
    have h4 : (WTm.not (.lt (.lit (.int (n : Int))) (.len (.arg 0)))).holds [] { args := [.list (ns.map .int)] } = true := by
      have h4 := (holds_andW hc).1
      rw [hn] at h4
      exact h4
    have h5 := condW_of h4 (w_not (w_lt w_lit (w_len_list (w_arg rfl))))
    rw [List.length_map] at h5
    refine Nat.le_of_not_lt fun q => ?_
    have q' : (n : Int) < ((ns.length : Nat) : Int) := by omega
    first
      | (rw [decide_eq_true q'] at h5; exact absurd h5 (by decide))
      | (simp at h5; omega)
  cases hwl with
  | cons w1 w2 =>
    cases w2
    cases w1 with
    | list ho hall => exact ⟨_, _, ns, rfl, rfl, ho, ints_of_wellAll ns _ hall, hlen⟩

theorem post_true (l : OpenLaw) (args : List WData) : l.row.toRowW.claim.post args (.bool true) args = true :=
  postW_of (r := l.row.toRowW) (X := (true == true))
    (show WShape.has [] (.bool true) .bool = true by first | rfl | decide | simp [WShape.has, WShape.arms, WShape.armsAll])
    (show (WTm.eq .res (.lit (.bool true))).value [] { args := args, res := some (.bool true), after := args } = some (.bool (true == true)) from w_eq_bool (w_res rfl) w_lit) rfl

/-! ### the attachment: holds_open's last premise (the goal 'hc' behind k_head) from a wpAny of the law's body -/
/-- the same from a codeAny of the CALL (for a layer whose function contracts speak of calls) -/
theorem attach_call {l : OpenLaw} {n : Nat} {q : Program} {loose : List Str} {XP : (Str → Option Value) → Heap → Prop} {YP : World → Heap → Prop} {d : DefRec}
    (hn : l.most = some n) (hdf : d.params.defaults = [])
    (call : ∀ (w : World) (s₀ s₁ : Shared) (mg mb : Str → Option Value) (fa : Addr) (o : Obj) (pm cd doc : Value) (a : Addr) (vs : List Value) (ns : List Int),
      Ground q loose [] XP w s₀ mg mb s₁.heap → YP w s₁.heap →
      s₁.heap.get? fa = some o → o.data = .func (docDef d.name d.params d.body d.scope pm cd doc) → s₁.heap.CodeRec cd d.name → mg d.name = some (.ref fa) →
      s₁.heap.get? a = some { cls := .type "list", data := .seq vs.toArray } → IntsAre vs ns → ns.length ≤ n → s₁.gens = #[] →
      codeAny (model l.prog w) callerA (.call (.ref fa) ⟨[.ref a], []⟩) (fun r s' => r = .ok (.ret (.bool true)) ∧ OldK s₁.heap s'.heap ∧ s'.os = s₁.os ∧ AllBare s'.gens) s₁) :
    WalkO q loose XP YP l.row.toRowW d [] (fun f vs => PySem.call f vs) := by
  intro w s₀ s₁ mg mb G Y fa o pm cd doc dV kV ho hd hcd hD hmg hg args vals as hpre hlay hrd hwl hlo
  obtain rfl : dV = .none := Dflts.none hD hdf
  obtain rfl : kV = .none := Dflts.noKw hD
  obtain ⟨a, vs, ns, rfl, rfl, hobj, hints, hlen⟩ := script_of hn hpre hwl
  refine enter_call (codeAny_mono (call w s₀ s₁ mg mb fa o pm cd doc a vs ns G Y ho (fd_plain hd) hcd hmg hobj hints hlen hg) fun r s' hq => ?_)
  obtain ⟨rfl, h2, h3, h4⟩ := hq
  exact ⟨.inl ⟨.bool true, .bool true, [], rfl, fun _ => rfl, .bool true, post_true l _, fun _ => ⟨List.Pairwise.nil, fun _ hm => (nomatch hm)⟩⟩, h2, h3, h4⟩

/-! ### rules over ANY heap (no ledger) from facts about the written part K: the library's own take a ledger (News) for what they write -/
section
variable {prog : Program} {w : World} {A : Around} {E : Value → Shared → Prop} {s : Shared} {K : Frag}

/-! the whole heap as the ledger: makes every rule that writes through a ledger a rule over any heap -/
def ledger (h : Heap) (L d : Addr) : List (Addr × Obj) := (List.range h.objs.size).filterMap fun a => if a = L ∨ a = d then none else (h.get? a).map fun o => (a, o)
end
end Att

namespace L2
open PySem PySem.Spec PyProof.Rows

theorem vals_ints : ∀ {vs : List Value} {ns : List Int}, IntsAre vs ns → Vals (ns.map V.int) vs
  | _, _, .nil => .nil
  | _, _, .cons n t h => .cons ⟨t, rfl⟩ (vals_ints h)

/-- nothing is tracked but the script, known to the object (or it is an object of the module) -/
def Only (H : Hp) : Prop := ∀ b, H b = none ∨ ∃ o xs, H b = some (.frz o (.lst xs))

/-- THE HEAD: the law's promise, at the heap behind the top. F, the promise of the law's def, may use that base is part of the heap (so K.In base, base.Ns mainGlobals mg stand in Mod) -/
theorem law_call {P : Program} {w : World} {K : PySem.W.Frag} {mg mb : Str → Option Value} {CX : CXT} {k : Nat} {fa a : Addr} {fd : FuncData} {x : Str} {sp : Sp} {s₁ : Shared} {vs : List Value} {ns : List Int}
    (KX : K.In s₁.heap) (hns : s₁.heap.Ns mainGlobals mg) (hb : s₁.heap.Ns builtinsNs mb) (hbb : ∀ x : Str, x ≠ "__name__" → mb x = bootBuiltins x) (hlim : s₁.heap.NoLimit) (hg : s₁.gens = #[])
    (ha : s₁.heap.get? a = some { cls := .type "list", data := .seq vs.toArray }) (hi : IntsAre vs ns) (hl : ns.length ≤ sizeLine) (hr : Room k callerA)
    (F : ∀ base : Heap, K.In base → base.Ns mainGlobals mg → FnOk P w K mg base CX k fa fd [x] sp) (hbind : ∀ (s : Shared) (u : Value), BindsTo s fd ⟨[u], []⟩ [(x, u)])
    (hsp : ∀ H : Hp, Only H → SqL K H a (ns.map V.int) → sp [.ref a] H (fun v _ => v = .bl true) fun _ _ _ => False)
    (hCX : ∀ H e s', CX [] H s₁ (fun _ _ _ => False) e s' → False) :
    codeAny (model P w) callerA (.call (.ref fa) ⟨[.ref a], []⟩) (fun r s' => r = .ok (.ret (.bool true)) ∧ OldK s₁.heap s'.heap ∧ s'.os = s₁.os ∧ AllBare s'.gens) s₁ := by
  have rv := vals_ints hi
  have lenV := hi.length
  -- from an abstract heap in which nothing but the script may be tracked
  have core : ∀ H : Hp, Only H → SqL K H a (ns.map V.int) → HOk P w H s₁.heap → (∀ b, H b ≠ none → b = a) → (H a ≠ none → K.lookup a = none) →
      codeAny (model P w) callerA (.call (.ref fa) ⟨[.ref a], []⟩) (fun r s' => r = .ok (.ret (.bool true)) ∧ OldK s₁.heap s'.heap ∧ s'.os = s₁.os ∧ AllBare s'.gens) s₁ := by
    intro H hO hS hok hA hK
    have base_of : ∀ {b : Addr} {o : Obj}, s₁.heap.get? b = some o → H b = none → (hidT s₁.heap H).get? b = some o := fun e n => hidT_get e n
    have noA : ∀ {b : Addr} {o : Obj} {es : Array DictEntry} {ep : Nat}, s₁.heap.get? b = some o → o.data = .dict es ep → H b = none := fun {b o es ep} e d => by
      cases q : H b with
      | none => rfl
      | some u =>
        have e' : b = a := hA b (by rw [q]; simp)
        subst e'
        rw [ha] at e; cases e
        have d' : Data.seq vs.toArray _ = Data.dict es ep := d
        cases d'
    have nsK : ∀ {b : Addr} {m : Str → Option Value}, s₁.heap.Ns b m → (hidT s₁.heap H).Ns b m := fun {b m} ⟨o, es, ep, e, d, r⟩ => ⟨o, es, ep, base_of e (noA e d), d, r⟩
    have hKb : K.In (hidT s₁.heap H) := fun b o e => base_of (KX b o e) (by
      cases q : H b with
      | none => rfl
      | some u =>
        have e' : b = a := hA b (by rw [q]; simp)
        subst e'
        rw [hK (by rw [q]; simp)] at e; cases e)
    have hM : Mod K mg (hidT s₁.heap H) := ⟨hKb, nsK hns, ⟨mb, nsK hb, hbb⟩, let ⟨mc, h1, h2⟩ := hlim; ⟨mc, nsK h1, h2⟩⟩
    have e0 : Env0 P w K mg (hidT s₁.heap H) callerA [] s₁ H := ⟨rfl, hM, fun b o e => of_hidT e, Nat.le_of_eq (hidT_size _ _), trivial, fun b hb => absurd (show b ∈ ([] : List Addr) from hb) (by simp), hok, .of_eq hg⟩
    refine codeAny_mono ((F _ hKb (nsK hns)).run callerA [] s₁ H ⟨[.ref a], []⟩ [.ref a] [.ref a] _ _ hr e0 (hbind s₁ (.ref a)) (.cons rfl .nil) (hsp H hO hS)) fun r s' h => ?_
    cases r with
    | error e => exact (hCX H e s' h).elim
    | ok fl =>
      cases fl with
      | next => exact False.elim h
      | brk => exact False.elim h
      | cont => exact False.elim h
      | ret u =>
        obtain ⟨v, H', os, bare, un, hok', r', q⟩ := h
        have q' : v = .bl true := q
        subst q'
        obtain rfl : u = Value.bool true := r'
        refine ⟨rfl, OldK.of_keep fun b o e => ?_, os, bare⟩
        cases q : H b with
        | none => exact un.keep b o e q (by intro z; exact absurd (show b ∈ ([] : List Addr) from z) (by simp)) (by simp)
        | some u =>
          rcases hO b with z | ⟨ob, xs, z⟩
          · rw [q] at z; cases z
          · have z2 := un.frzs b ob _ z
            obtain ⟨e1, _⟩ := hok b _ z
            obtain ⟨e2, _⟩ := hok' b _ z2
            rw [e] at e1; cases e1
            exact e2
  cases hk : K.lookup a with
  | some o =>
    -- the script is one of the module's own objects
    have e := KX a o hk
    rw [ha] at e
    cases e
    refine core (fun _ => none) (fun _ => .inl rfl) (.inr ⟨_, vs.toArray, _, hk, rfl, rfl, rfl, by rw [List.size_toArray, lenV]; exact hl, by simpa using rv⟩) (fun b u z => by have z' : (none : Option HO) = some u := z; cases z') (fun b z => absurd rfl z) fun z => absurd rfl z
  | none =>
    refine core (fun b => if b = a then some (.frz { cls := .type "list", data := .seq vs.toArray } (.lst (ns.map V.int))) else none) (fun b => ?_) (.inl (.inr ⟨{ cls := .type "list", data := .seq vs.toArray }, if_pos rfl⟩)) (fun b u z => ?_) (fun b z => ?_) fun _ => hk
    · by_cases hb : b = a
      · exact .inr ⟨_, _, if_pos hb⟩
      · exact .inl (if_neg hb)
    · by_cases hb : b = a
      · have z' := (if_pos hb).symm.trans z
        cases z'
        subst hb
        exact ⟨ha, by rw [List.length_map]; exact hl, vs, _, rv, ha⟩
      · have z' := (if_neg hb).symm.trans z
        cases z'
    · by_cases hb : b = a
      · exact hb
      · exact absurd (if_neg hb) z
end L2

namespace L2
open PySem PySem.Spec PyProof.Rows

abbrev KOf {K : PySem.W.Frag} {h : Heap} (_ : K.In h) : PySem.W.Frag := K

/-- the goal that k_head leaves (case hc), from the law's promise. F gives the function object fd (K's own) once, then the promise over every base -/
theorem walk_of {l : PySem.W.OpenLaw} {n k : Nat} {q : Program} {loose : List Str} {XP : (Str → Option Value) → Heap → Prop} {YP : World → Heap → Prop} {d : DefRec} {K : Params → PySem.W.Frag} {CX : World → CXT} {sp : World → Sp} {x : Str}
    (hn : l.most = some n) (hn2 : n ≤ sizeLine) (hdf : d.params.defaults = []) (hr : Room k callerA)
    (hY : ∀ (w : World) (h : Heap), YP w h → (K w.params).In h)
    (F : ∀ (w : World) (mg : Str → Option Value) (fa : Addr) (h : Heap), (K w.params).In h → h.Ns mainGlobals mg → mg d.name = some (.ref fa) →
      ∃ fd : FuncData, (∀ (s : Shared) (u : Value), BindsTo s fd ⟨[u], []⟩ [(x, u)]) ∧
        ∀ base : Heap, (K w.params).In base → base.Ns mainGlobals mg → FnOk l.prog w (K w.params) mg base (CX w) k fa fd [x] (sp w))
    (hsp : ∀ (w : World) (H : Hp) (a : Addr) (ns : List Int), ns.length ≤ n → Only H → SqL (K w.params) H a (ns.map V.int) → sp w [.ref a] H (fun v _ => v = .bl true) fun _ _ _ => False)
    (hCX : ∀ (w : World) (H : Hp) (s : Shared) (e : Value) (s' : Shared), CX w [] H s (fun _ _ _ => False) e s' → False) :
    PySem.W.WalkO q loose XP YP l.row.toRowW d [] (fun f vs => PySem.call f vs) := by
  refine Att.attach_call hn hdf fun w s₀ s₁ mg mb fa o pm cd doc a vs ns G Y ho hd hcd hmg hobj hints hlen hg => ?_
  have KX := hY w _ Y
  obtain ⟨fd, hb, hF⟩ := F w mg fa _ KX G.T.g hmg
  exact law_call KX G.T.g G.T.b G.T.builtins G.T.nolimit hg hobj hints (Nat.le_trans hlen hn2) hr hF hb (fun H hO hS => hsp w H a ns hlen hO hS) fun H e s' => hCX w H s₁ e s'
end L2

/- THE LAST THEOREM (shape; LID, My.* are yours):
   My.Adr: a structure of the addresses that your layer names (classes, functions); My.Txt K t: a structure (Prop) of the equations over K;
   My.txt_mk : {K} {implicit addresses ..} (e1 : nsIn K mainGlobals "law" = some (some (.ref f))) (e2 : K.lookup f = some ⟨oc, od, .func (fnOf "law" "law" params body scope dV kV doc pm an cdv ct), sl⟩) (e3 : codeIn K cdv "law" = true) .. : ∃ t, My.Txt K t

set_option maxRecDepth 100000 in
set_option maxHeartbeats 0 in
theorem PySem.Challenge.cw_LID_holds : PySem.Challenge.rw_LID.Holds := by
  w_on; o_law; k_head; (case hw => w_witness2)
  k_fill
  refine L2.walk_of (l := PySem.Challenge.rw_LID) (n := 63) (k := 40) (x := "script") (CX := fun w => ..) (sp := fun _ => My.sp_law) rfl (by decide) rfl ⟨rfl, by decide, by decide⟩ (fun w h Y => PySem.W.kIn_of Y) ?F ?S ?C
  case F =>
    intro w mg fa h KX G hmg
    have T : ∃ t, My.Txt (L2.KOf KX) t := by
      dsimp only [L2.KOf]                          -- K must stand as «<heap const> w.params» for k_is
      refine' My.txt_mk ?e1 ?e2 ?e3 ..
      (case e1 => PySem.W.k_is)                    -- in the order: a name -> its address -> its object -> its parts
      (case e2 => PySem.W.k_is)
      ..
    obtain ⟨t, T⟩ := T
    have e0 := hmg.symm.trans (PySem.W.mg_of KX G T.law)
    cases e0                                       -- fa is the law's own address
    exact ⟨_, fun s u => .of_eq rfl, fun base kb nb => My.law_fn T kb nb⟩     -- if «.of_eq rfl» comes too early: refine' ⟨_, ?b, fun base kb nb => My.law_fn T kb nb⟩; exact fun s u => .of_eq rfl
  case S => exact fun w H a ns hl hO hS => ..
  case C => exact ..
(the tactic k_is has no namespace: write k_is) -/

/-! SHORT WORDS over the layer: a def of the text, its body, what a loop and a test want. -/
namespace L2
open PySem PySem.Spec PyProof.Rows

/-! ### the text by places -/
/-- the j-th statement of a class's body -/
def inClass (s : Stmt) (j : Nat) : Stmt := match s with
  | .ClassDef _ _ _ body _ _ _ _ _ _ _ => body.getD j (.Pass ⟨0, 0, 0, 0⟩)
  | _ => .Pass ⟨0, 0, 0, 0⟩
def defArgs (s : Stmt) : Arguments := match s with
  | .FunctionDef _ a _ _ _ _ _ _ _ _ => a
  | _ => { posonlyargs := [], args := [], vararg := none, kwonlyargs := [], kw_defaults := [], kwarg := none, defaults := [] }
def defBody (s : Stmt) : List Stmt := match s with
  | .FunctionDef _ _ b _ _ _ _ _ _ _ => b
  | _ => []
def defScope (s : Stmt) : Scope := match s with
  | .FunctionDef _ _ _ _ _ _ sc _ _ _ => sc
  | _ => { kind := .function, names := [], isGenerator := false, isCoroutine := false }

/-! ### no exception leaves a def -/
abbrev CX0 : CXT := fun _ _ _ _ _ _ => False
abbrev E0 : XK := fun _ _ _ => False
theorem pass0 {X : Cx} : Passes CX0 X E0 := fun _ _ _ _ _ _ _ h => h.elim

/-! ### a def (or method) of the text as it stands behind the top -/
structure Fun (K : PySem.W.Frag) (x qual : Str) (st : Stmt) (f : Addr) (fd : FuncData) : Prop where
  ex : ∃ (oc : Value) (od : Option Addr) (kV doc pm : Value) (an : Option Addr) (cdv ct : Value) (osl : Array (Option Value)),
    fd = PySem.W.fnOf x qual (defArgs st) (defBody st) (defScope st) .none kV doc pm an cdv ct ∧ K.lookup f = some ⟨oc, od, .func fd, osl⟩ ∧ PySem.W.codeIn K cdv qual = true
  kp : PySem.W.keepIn K (.ref f) = true
section
variable {P : Program} {w : World} {K : PySem.W.Frag} {mg : Str → Option Value} {base : Heap}
/-- THE RULE for a def: its body as a term of rules, and the reading of that term -/
theorem Fun.ok {x qual : Str} {st : Stmt} {f : Addr} {fd : FuncData} {N ps : List Str} {k : Nat} {sp : Sp} (F : Fun K x qual st f fd) (S : FnScope N ps (defScope st)) (len : ∀ vs H Q E, sp vs H Q E → vs.length = ps.length)
    (hbody : ∀ (cdv : Value) (A : Around) (outer : List Env) (s : Shared) (H : Hp) (vs : List V) (Q : VK) (E : XK), Room k (A.deeper (envOfC qual (defScope st) s.heap.objs.size f cdv)) → sp vs H Q E →
      ∃ t, PSs (cxOf CX0 P w K mg base N qual (defScope st) f cdv A outer s H E).nox (defBody st) t ∧ t { nx := fun _ H' => Q .non H', rt := Q } (start N vs) H) : FnOk P w K mg base CX0 (k + 1) f fd ps sp := by
  obtain ⟨oc, od, kV, doc, pm, an, cdv, ct, osl, rfl, lk, hcd⟩ := F.ex
  refine fn_of lk hcd S len fun A outer s H vs Q E hr hsp => ?_
  obtain ⟨t, h, q⟩ := hbody cdv A outer s H vs Q E hr hsp
  exact ⟨t, h.nox, q⟩
/-- how its arguments bind (no defaults): h is «fun _ _ _ _ _ _ us hl => match us, hl with | [_, _], _ => rfl», one _ a parameter -/
theorem Fun.binds {x qual : Str} {st : Stmt} {f : Addr} {fd : FuncData} {ps : List Str} (F : Fun K x qual st f fd)
    (h : ∀ (kV doc pm : Value) (an : Option Addr) (cdv ct : Value) (us : List Value), us.length = ps.length → bindArgs (PySem.W.fnOf x qual (defArgs st) (defBody st) (defScope st) .none kV doc pm an cdv ct) ⟨us, []⟩ = pure (ps.zip us)) : Binds K fd ps [] := by
  obtain ⟨oc, od, kV, doc, pm, an, cdv, ct, osl, rfl, lk, hcd⟩ := F.ex
  exact .all (h kV doc pm an cdv ct)
theorem fun_mk {x qual : Str} {st : Stmt} {f : Addr} {oc : Value} {od an : Option Addr} {osl : Array (Option Value)} {kV doc pm cdv ct : Value} (l : K.lookup f = some ⟨oc, od, .func (PySem.W.fnOf x qual (defArgs st) (defBody st) (defScope st) .none kV doc pm an cdv ct), osl⟩)
    (c : PySem.W.codeIn K cdv qual = true) (k : PySem.W.keepIn K (.ref f) = true) : Fun K x qual st f (PySem.W.fnOf x qual (defArgs st) (defBody st) (defScope st) .none kV doc pm an cdv ct) := ⟨⟨oc, od, kV, doc, pm, an, cdv, ct, osl, rfl, l, c⟩, k⟩
end
theorem small1000 {n : Nat} (h : n ≤ 1000) : n < sizeLine := Nat.lt_of_le_of_lt h (by decide)

/-! ### expressions in short: the name that stands in the i-th slot -/
section
variable {X : Cx}
end

/-! ### tests -/
/-! ### heaps -/
/-- all that was tracked is as it was -/
def Same (H H' : Hp) : Prop := ∀ b o, H b = some o → H' b = some o
theorem Same.refl (H : Hp) : Same H H := fun _ _ h => h
theorem Same.trans {H H1 H2 : Hp} (a : Same H H1) (b : Same H1 H2) : Same H H2 := fun c o h => b c o (a c o h)
theorem Same.free {H H' : Hp} (e : Same H H') {l : Addr} (h : H' l = Option.none) : H l = Option.none := by
  cases q : H l with
  | none => rfl
  | some o =>
    rw [e l o q] at h
    cases h
theorem Same.seq {K : PySem.W.Frag} {H H' : Hp} {a : Addr} {xs : List V} (e : Same H H') (h : SqL K H a xs) : SqL K H' a xs := by
  rcases h with (h | ⟨o, h⟩) | h
  · exact .inl (.inl (e _ _ h))
  · exact .inl (.inr ⟨o, e _ _ h⟩)
  · exact .inr h

end L2

namespace L2
open PySem PySem.Spec PyProof.Rows

/-! ### lists of pairs as tables -/
section
variable {κ : Type} [DecidableEq κ]
def valV (kvs : List (κ × V)) (k : κ) : Option V := (kvs.find? fun kv => decide (kv.1 = k)).map (·.2)
/-- in its place, or at the end -/
def putK (kvs : List (κ × V)) (k : κ) (v : V) : List (κ × V) :=
  if (kvs.any fun kv => decide (kv.1 = k)) = true then kvs.map (fun kv => if kv.1 = k then (kv.1, v) else kv) else kvs ++ [(k, v)]
def dropK (kvs : List (κ × V)) (k : κ) : List (κ × V) := kvs.filter fun kv => decide (kv.1 ≠ k)

theorem valV_nil {k : κ} : valV ([] : List (κ × V)) k = none := rfl
theorem valV_pos {p : κ × V} {r : List (κ × V)} {k : κ} (e : p.1 = k) : valV (p :: r) k = some p.2 := by simp [valV, List.find?_cons, e]
theorem valV_neg {p : κ × V} {r : List (κ × V)} {k : κ} (e : ¬ p.1 = k) : valV (p :: r) k = valV r k := by simp [valV, List.find?_cons, e]
theorem valV_any (k : κ) : ∀ kvs : List (κ × V), (kvs.any fun kv => decide (kv.1 = k)) = (valV kvs k).isSome
  | [] => rfl
  | p :: r => by
    rw [List.any_cons]
    by_cases e : p.1 = k
    · simp only [valV_pos e, decide_eq_true e, Bool.true_or, Option.isSome_some]
    · rw [valV_neg e, decide_eq_false e, Bool.false_or]; exact valV_any k r
theorem length_putK (kvs : List (κ × V)) (k : κ) (v : V) : (putK kvs k v).length ≤ kvs.length + 1 := by
  unfold putK
  split
  · rw [List.length_map]; omega
  · rw [List.length_append, List.length_cons, List.length_nil]; omega
theorem RelO.isSome_eq {o : Option V} {u : Option Value} (r : RelO o u) : o.isSome = u.isSome := by
  cases o with
  | none => cases u with
    | none => rfl
    | some _ => exact (show False from r).elim
  | some _ => cases u with
    | none => exact (show False from r).elim
    | some _ => rfl
theorem RelO.getD {o : Option V} {u : Option Value} {d : V} {d' : Value} (r : RelO o u) (rd : RelV d d') : RelV (o.getD d) (u.getD d') := by
  cases o with
  | none => cases u with
    | none => exact rd
    | some _ => exact (show False from r).elim
  | some _ => cases u with
    | none => exact (show False from r).elim
    | some _ => exact r

/-- raw tables of the same keys -/
theorem KV.val {kvs : List (κ × V)} {vs : List (κ × Value)} (r : KV kvs vs) (k : κ) : RelO (valV kvs k) (valueAt vs k) := by
  unfold KV at r
  induction r with
  | nil => exact True.intro
  | @cons p q ps qs h t ih =>
    obtain ⟨h1, h2⟩ := h
    by_cases e : p.1 = k
    · have e' : q.1 = k := h1.symm.trans e
      have b : valueAt (q :: qs) k = some q.2 := by simp [valueAt, List.find?_cons, e']
      rw [valV_pos e, b]; exact h2
    · have e' : ¬ q.1 = k := fun z => e (h1.trans z)
      have b : valueAt (q :: qs) k = valueAt qs k := by simp [valueAt, List.find?_cons, e']
      rw [valV_neg e, b]; exact ih
theorem KV.any {kvs : List (κ × V)} {vs : List (κ × Value)} (r : KV kvs vs) (k : κ) : (kvs.any fun kv => decide (kv.1 = k)) = vs.any fun kv => decide (kv.1 = k) := by
  unfold KV at r
  induction r with
  | nil => rfl
  | cons h t ih => rw [List.any_cons, List.any_cons, ih, h.1]
theorem KV.repl {kvs : List (κ × V)} {vs : List (κ × Value)} (r : KV kvs vs) (k : κ) {y : V} {u : Value} (ry : RelV y u) :
    KV (kvs.map fun kv => if kv.1 = k then (kv.1, y) else kv) (vs.map fun kv => if kv.1 = k then (kv.1, u) else kv) := by
  unfold KV at r ⊢
  induction r with
  | nil => exact .nil
  | @cons p q ps qs h t ih =>
    rw [List.map_cons, List.map_cons]
    refine .cons ?_ ih
    obtain ⟨h1, h2⟩ := h
    by_cases e : p.1 = k
    · rw [if_pos e, if_pos (h1.symm.trans e)]; exact ⟨h1, ry⟩
    · rw [if_neg e, if_neg (fun z => e (h1.trans z))]; exact ⟨h1, h2⟩
theorem KV.put {kvs : List (κ × V)} {vs : List (κ × Value)} (r : KV kvs vs) (k : κ) {y : V} {u : Value} (ry : RelV y u) : KV (putK kvs k y) (stored vs k u) := by
  unfold putK stored
  rw [r.any k]
  by_cases e : (vs.any fun kv => decide (kv.1 = k)) = true
  · rw [if_pos e, if_pos e]; exact r.repl k ry
  · rw [if_neg e, if_neg e]; exact Paired.snoc r ⟨rfl, ry⟩
theorem KV.drop {kvs : List (κ × V)} {vs : List (κ × Value)} (r : KV kvs vs) (k : κ) : KV (dropK kvs k) (without vs k) := by
  unfold KV at r ⊢
  unfold dropK without
  induction r with
  | nil => exact .nil
  | @cons p q ps qs h t ih =>
    obtain ⟨h1, h2⟩ := h
    rw [List.filter_cons, List.filter_cons]
    by_cases e : p.1 = k
    · have a : ¬ decide (p.1 ≠ k) = true := by simp [e]
      have b : ¬ decide (q.1 ≠ k) = true := by simp [h1.symm.trans e]
      rw [if_neg a, if_neg b]; exact ih
    · have e' : ¬ q.1 = k := fun z => e (h1.trans z)
      have a : decide (p.1 ≠ k) = true := by simp [e]
      have b : decide (q.1 ≠ k) = true := by simp [e']
      rw [if_pos a, if_pos b]; exact .cons ⟨h1, h2⟩ ih
theorem KV.keys {kvs : List (κ × V)} {vs : List (κ × Value)} (r : KV kvs vs) : kvs.map (·.1) = vs.map (·.1) := by
  unfold KV at r
  induction r with
  | nil => rfl
  | cons h t ih => rw [List.map_cons, List.map_cons, ih, h.1]
theorem KV.length {kvs : List (κ × V)} {vs : List (κ × Value)} (r : KV kvs vs) : kvs.length = vs.length := Paired.length r
end


/-! ### a tracked dict, its keys ints and texts or tuples of these -/
theorem kV_is {P : Program} {w : World} {k : Key} {u : Value} (r : RelV (kV k) u) : (mixKind P w).is k u = true := by
  cases k with
  | inl i => obtain ⟨t, e⟩ := (show ∃ t, u = Value.int i t from r); subst e; exact mixKind_int P w i t
  | inr x => obtain ⟨t, e⟩ := (show ∃ t, u = Value.str x t from r); subst e; exact mixKind_str P w x t
theorem items_are {P : Program} {w : World} : ∀ {ks : List Key} {us : List Value}, Vals (ks.map kV) us → ItemsAre (mixKind P w) ks us
  | [], _, r => by rw [List.map_nil] at r; cases r; exact .nil
  | k :: ks, _, r => by
    rw [List.map_cons] at r
    cases r with
    | cons h t => exact .cons (kV_is h) (items_are t)

/-- raw entries of a dict with tuple keys -/
abbrev KT (H : Hp) : List (List Key × V) → List (List Key × Addr × Value) → Prop := Paired fun p q => p.1 = q.1 ∧ H q.2.1 = some (.tup (p.1.map kV)) ∧ RelV p.2 q.2.2
theorem KT.val {H : Hp} {kvs : List (List Key × V)} {xs : List (List Key × Addr × Value)} (r : KT H kvs xs) (k : List Key) : RelO (valV kvs k) ((atKey xs k).map (·.2)) := by
  induction r with
  | nil => exact True.intro
  | @cons p q ps qs h t ih =>
    obtain ⟨h1, _, h2⟩ := h
    by_cases e : p.1 = k
    · have e' : q.1 = k := h1.symm.trans e
      have b : atKey (q :: qs) k = some q.2 := by simp [atKey, List.find?_cons, e']
      rw [valV_pos e, b]; exact h2
    · have e' : ¬ q.1 = k := fun z => e (h1.trans z)
      have b : atKey (q :: qs) k = atKey qs k := by simp [atKey, List.find?_cons, e']
      rw [valV_neg e, b]; exact ih
theorem KT.repl {H : Hp} {kvs : List (List Key × V)} {xs : List (List Key × Addr × Value)} (r : KT H kvs xs) (k : List Key) {y : V} {u : Value} (ry : RelV y u) :
    KT H (kvs.map fun kv => if kv.1 = k then (kv.1, y) else kv) (xs.map (putAt k u)) := by
  induction r with
  | nil => exact .nil
  | @cons p q ps qs h t ih =>
    rw [List.map_cons, List.map_cons]
    refine .cons ?_ ih
    obtain ⟨h1, h2, h3⟩ := h
    unfold putAt
    by_cases e : p.1 = k
    · rw [if_pos e, if_pos (h1.symm.trans e)]; exact ⟨h1, h2, ry⟩
    · rw [if_neg e, if_neg (fun z => e (h1.trans z))]; exact ⟨h1, h2, h3⟩
theorem KT.put {H : Hp} {kvs : List (List Key × V)} {xs : List (List Key × Addr × Value)} (r : KT H kvs xs) (k : List Key) {b : Addr} {y : V} {u : Value} (hb : H b = some (.tup (k.map kV))) (ry : RelV y u) :
    KT H (putK kvs k y) (storedH xs k b u) := by
  have e : (kvs.any fun kv => decide (kv.1 = k)) = (atKey xs k).isSome := by
    rw [valV_any, (r.val k).isSome_eq, Option.isSome_map]
  unfold putK storedH
  rw [e]
  by_cases q : (atKey xs k).isSome = true
  · rw [if_pos q, if_pos q]; exact r.repl k ry
  · rw [if_neg q, if_neg q]; exact Paired.snoc r ⟨rfl, hb, ry⟩
theorem KT.keeps {H H' : Hp} {kvs : List (List Key × V)} {xs : List (List Key × Addr × Value)} (r : KT H kvs xs) (ht : ∀ b ys, H b = some (.tup ys) → H' b = some (.tup ys)) : KT H' kvs xs :=
  Paired.mapP r fun _ _ z => ⟨z.1, ht _ _ z.2.1, z.2.2⟩

section
variable {P : Program} {w : World} {H : Hp} {h : Heap} {a : Addr}
theorem rd_of {u : HO} (ok : HOk P w H h) (e : Rd H a u) : ObjOk P w H h a u := e.ok ok
theorem dk_rd {kvs : List (Key × V)} (ok : HOk P w H h) (e : Rd H a (.dK kvs)) : kvs.length ≤ sizeLine ∧ (a == sysModules) = false ∧ ∃ vs, KV kvs vs ∧ h.DictOf (mixKind P w) a vs :=
  show ObjOk P w H h a (.dK kvs) from rd_of ok e
theorem dk_of {kvs : List (Key × V)} (ok : HOk P w H h) (e : H a = some (.dK kvs)) : kvs.length ≤ sizeLine ∧ (a == sysModules) = false ∧ ∃ vs, KV kvs vs ∧ h.DictOf (mixKind P w) a vs := dk_rd ok (.inl e)
/-- a tracked tuple of ints and texts is a key -/
theorem key_of {ks : List Key} (ok : HOk P w H h) (e : H a = some (.tup (ks.map kV))) : (tupleKind (mixKind P w)).is h ks a := by
  obtain ⟨_, its, r, o, h1, h2, n, h3⟩ := (show ObjOk P w H h a (.tup (ks.map kV)) from ok a _ e)
  exact ⟨o, its.toArray, n, h1, h2, h3, by simpa using items_are r⟩
theorem dt_rd {kvs : List (List Key × V)} (ok : HOk P w H h) (e : Rd H a (.dT kvs)) : kvs.length ≤ sizeLine ∧ (a == sysModules) = false ∧
    ∃ xs, KT H kvs xs ∧ h.DictOfH (tupleKind (mixKind P w)) a xs := by
  obtain ⟨z, y, xs, r, o, es, ep, h1, h2, h3, h4, h5⟩ := (show ObjOk P w H h a (.dT kvs) from rd_of ok e)
  refine ⟨z, y, xs, r, o, es, ep, h1, h2, h3, h4, fun x hx => ?_, h5⟩
  have all : ∀ {l : List (List Key × V)} {m : List (List Key × Addr × Value)}, KT H l m → ∀ x ∈ m, (tupleKind (mixKind P w)).is h x.1 x.2.1 := by
    intro l m q
    induction q with
    | nil => intro x hx; exact nomatch hx
    | @cons p q ps qs hq t ih =>
      intro x hx
      rcases List.mem_cons.mp hx with e | hx
      · subst e
        exact key_of ok (by rw [← hq.1]; exact hq.2.1)
      · exact ih x hx
  exact all r x hx
theorem dt_of {kvs : List (List Key × V)} (ok : HOk P w H h) (e : H a = some (.dT kvs)) : kvs.length ≤ sizeLine ∧ (a == sysModules) = false ∧
    ∃ xs, KT H kvs xs ∧ h.DictOfH (tupleKind (mixKind P w)) a xs := dt_rd ok (.inl e)
end

/-- what the dict at a holds at the key y -/
def DGet (H : Hp) (a : Addr) (y : V) (r : Option V) : Prop :=
  (∃ kvs k, Rd H a (.dK kvs) ∧ y = kV k ∧ r = valV kvs k) ∨ ∃ kvs k b, Rd H a (.dT kvs) ∧ y = .ref b ∧ H b = some (.tup (k.map kV)) ∧ r = valV kvs k
/-- the heap behind a[y] = v -/
def DPut (H : Hp) (a : Addr) (y v : V) (H' : Hp) : Prop :=
  (∃ kvs k, H a = some (.dK kvs) ∧ y = kV k ∧ kvs.length < sizeLine ∧ H' = upd H a (.dK (putK kvs k v))) ∨
  ∃ kvs k b, H a = some (.dT kvs) ∧ y = .ref b ∧ H b = some (.tup (k.map kV)) ∧ kvs.length < sizeLine ∧ H' = upd H a (.dT (putK kvs k v))
theorem DGet.k {H : Hp} {a : Addr} {kvs : List (Key × V)} {k : Key} (e : H a = some (.dK kvs)) : DGet H a (kV k) (valV kvs k) := .inl ⟨kvs, k, .inl e, rfl, rfl⟩
theorem DGet.t {H : Hp} {a b : Addr} {kvs : List (List Key × V)} {k : List Key} (e : H a = some (.dT kvs)) (eb : H b = some (.tup (k.map kV))) : DGet H a (.ref b) (valV kvs k) := .inr ⟨kvs, k, b, .inl e, rfl, eb, rfl⟩
theorem DPut.k {H : Hp} {a : Addr} {kvs : List (Key × V)} {k : Key} {v : V} (e : H a = some (.dK kvs)) (hl : kvs.length < sizeLine) : DPut H a (kV k) v (upd H a (.dK (putK kvs k v))) := .inl ⟨kvs, k, e, rfl, hl, rfl⟩
theorem DPut.t {H : Hp} {a b : Addr} {kvs : List (List Key × V)} {k : List Key} {v : V} (e : H a = some (.dT kvs)) (eb : H b = some (.tup (k.map kV))) (hl : kvs.length < sizeLine) :
    DPut H a (.ref b) v (upd H a (.dT (putK kvs k v))) := .inr ⟨kvs, k, b, e, rfl, eb, hl, rfl⟩


section
variable {X : Cx} {pins : List (Addr × Obj)} {σ : St} {H : Hp} {s : Shared} {a : Addr} {y v : V} {u r : Value} {o : Option V} {A : Around} {E : Value → Shared → Prop}

theorem Inv.big (I : Inv X pins σ H s) : sysModules < s.heap.objs.size := by
  have h : mainGlobals < s.heap.objs.size := (I.mod.glob.keeps I.bk).lt
  exact Nat.lt_trans (by decide) h

/-- d[y], there -/
theorem d_getItem {Q : Value → Shared → Prop} (hu : A.units + 1 < cLine) (I : Inv X pins σ H s) (g : DGet H a y (some v)) (ry : RelV y u) (h : ∀ w' s', Inv X pins σ H s' → RelV v w' → Q w' s') :
    wpAny (model X.prog X.w) A (getItem (.ref a) u) Q E s := by
  rcases g with ⟨kvs, k, e, ey, l⟩ | ⟨kvs, k, b, e, ey, eb, l⟩
  · subst ey
    obtain ⟨z, hd, vs, rel, dd⟩ := dk_rd I.hok e
    obtain ⟨w', hw, rw'⟩ := RelO.some_of (v := v) (o := valueAt vs k) (by rw [l]; exact rel.val k)
    exact wpAny_getItem_of (kV_is ry) dd.mapOf hw (h w' _ (I.tok _) rw')
  · subst ey
    cases (show u = Value.ref b from ry)
    obtain ⟨z, hd, xs, rel, dd⟩ := dt_rd I.hok e
    obtain ⟨w', hw, rw'⟩ := RelO.some_of (v := v) (o := (atKey xs k).map (·.2)) (by rw [l]; exact rel.val k)
    obtain ⟨p, hp, hp2⟩ := Option.map_eq_some_iff.mp hw
    refine wpAny_getItem_heap (tupleKind_room_in1 hu) (key_of I.hok eb) dd hp ?_
    rw [hp2]
    exact h w' _ (I.tok _) rw'
/-- y in d -/
theorem d_in {Q : Value → Shared → Prop} (hu : A.units + 1 < cLine) (I : Inv X pins σ H s) (g : DGet H a y o) (ry : RelV y u) (h : ∀ s', Inv X pins σ H s' → Q (.bool o.isSome) s') :
    wpAny (model X.prog X.w) A (compareOp .In u (.ref a)) Q E s := by
  rcases g with ⟨kvs, k, e, ey, l⟩ | ⟨kvs, k, b, e, ey, eb, l⟩
  · subst ey
    obtain ⟨z, hd, vs, rel, dd⟩ := dk_rd I.hok e
    refine wpAny_in_of (kV_is ry) hd dd.mapOf ?_
    rw [← (rel.val k).isSome_eq, ← l]
    exact h _ (I.tok _)
  · subst ey
    cases (show u = Value.ref b from ry)
    obtain ⟨z, hd, xs, rel, dd⟩ := dt_rd I.hok e
    refine wpAny_in_heap (tupleKind_room_in1 hu) (key_of I.hok eb) hd dd ?_
    have q := (rel.val k).isSome_eq
    rw [Option.isSome_map] at q
    rw [← q, ← l]
    exact h _ (I.tok _)
theorem d_notIn {Q : Value → Shared → Prop} (hu : A.units + 1 < cLine) (I : Inv X pins σ H s) (g : DGet H a y o) (ry : RelV y u) (h : ∀ s', Inv X pins σ H s' → Q (.bool (!o.isSome)) s') :
    wpAny (model X.prog X.w) A (compareOp .NotIn u (.ref a)) Q E s := by
  rcases g with ⟨kvs, k, e, ey, l⟩ | ⟨kvs, k, b, e, ey, eb, l⟩
  · subst ey
    obtain ⟨z, hd, vs, rel, dd⟩ := dk_rd I.hok e
    refine wpAny_notIn_of (kV_is ry) hd dd.mapOf ?_
    rw [← (rel.val k).isSome_eq, ← l]
    exact h _ (I.tok _)
  · subst ey
    cases (show u = Value.ref b from ry)
    obtain ⟨z, hd, xs, rel, dd⟩ := dt_rd I.hok e
    refine wpAny_notIn_heap (tupleKind_room_in1 hu) (key_of I.hok eb) hd dd ?_
    have q := (rel.val k).isSome_eq
    rw [Option.isSome_map] at q
    rw [← q, ← l]
    exact h _ (I.tok _)
/-- a dict's object is replaced -/
theorem d_write {h' : Heap} {t' : Nat} {ob : HO} (I : Inv X pins σ H s) (mu : Mut (H a)) (hs : Heap.SameBut a s.heap h') (he : ∃ q, h'.get? a = some q) (new : ObjOk X.prog X.w (upd H a ob) h' a ob) :
    Inv X pins σ (upd H a ob) { s with heap := h', toks := t' } :=
  I.write (x := a) (e := a) mu (.inl rfl) (fun b q hb z => (hs.2 b hb).trans z) he new
theorem dk_new {P : Program} {w : World} {H' : Hp} {h' : Heap} {kvs : List (Key × V)} {vs : List (Key × Value)} (z : kvs.length ≤ sizeLine) (hd : (a == sysModules) = false) (rel : KV kvs vs) (dd : h'.DictOf (mixKind P w) a vs) :
    ObjOk P w H' h' a (.dK kvs) := ⟨z, hd, vs, rel, dd⟩
/-- d[y] = v -/
theorem d_setItem {H' : Hp} {Q : Unit → Shared → Prop} (hu : A.units + 1 < cLine) (I : Inv X pins σ H s) (g : DPut H a y v H') (ry : RelV y u) (rv : RelV v r) (h : ∀ s', Inv X pins σ H' s' → Q () s') :
    wpAny (model X.prog X.w) A (setItem (.ref a) u r) Q E s := by
  rcases g with ⟨kvs, k, e, ey, l, eH⟩ | ⟨kvs, k, b, e, ey, eb, l, eH⟩
  · subst ey eH
    obtain ⟨z, hd, vs, rel, dd⟩ := dk_of I.hok e
    have hz : vs.length ≤ sizeLine := by rw [← rel.length]; exact z
    have hl : (putK kvs k v).length ≤ sizeLine := by have := length_putK kvs k v; omega
    refine wpAny_setItem_pairs (hsz := hz) (kV_is ry) dd fun h' dd' hs => h _ ?_
    have he : ∃ q, h'.get? a = some q := let ⟨q, _, _, hq, _⟩ := dd'; ⟨q, hq⟩
    exact d_write I (by rw [e]; exact True.intro) hs he (dk_new hl hd (rel.put k rv) dd')
  · subst ey eH
    cases (show u = Value.ref b from ry)
    obtain ⟨z, hd, xs, rel, dd⟩ := dt_of I.hok e
    have hz : xs.length ≤ sizeLine := by rw [← Paired.length rel]; exact z
    have hl : (putK kvs k v).length ≤ sizeLine := by have := length_putK kvs k v; omega
    refine wpAny_setItem_heap (hsz := hz) (tupleKind_room_in1 hu) (key_of I.hok eb) dd fun h' dd' hs => h _ ?_
    obtain ⟨q, es, ep, hq, h2, h3, h4, _, h5⟩ := dd'
    refine d_write I (by rw [e]; exact True.intro) hs ⟨q, hq⟩ ⟨hl, hd, _, (rel.put k eb rv).keeps fun c ys ec => ?_, q, es, ep, hq, h2, h3, h4, h5⟩
    rw [upd_ne (ne_of ec e (fun z => nomatch z))]
    exact ec
end

section
variable {X : Cx} {pins : List (Addr × Obj)} {σ : St} {H : Hp} {s : Shared} {a : Addr} {kvs : List (Key × V)} {k : Key} {u : Value} {A : Around} {E : Value → Shared → Prop}
end


/-! ### readings and rules -/
theorem dict_typeIs {X : Cx} {pins : List (Addr × Obj)} {σ : St} {H : Hp} {s : Shared} {a : Addr} {y : V} {o : Option V} (I : Inv X pins σ H s) (g : DGet H a y o) : s.TypeIs (.ref a) "dict" := by
  rcases g with ⟨kvs, k, e, _, _⟩ | ⟨kvs, k, b, e, _, _, _⟩
  · obtain ⟨_, _, vs, _, dd⟩ := dk_rd I.hok e
    exact dd.typeIs
  · obtain ⟨_, _, xs, _, dd⟩ := dt_rd I.hok e
    exact dd.typeIs
section
variable {X : Cx} {o i e value : Expr} {pos pos' tpos : Pos} {td ty tv : TE}
end


/-! ### displays -/
theorem dk_empty {P : Program} {w : World} {H : Hp} (h : Heap) (hb : sysModules < h.objs.size) : ObjOk P w H (h.push { cls := .type "dict", data := .dict #[] }) h.objs.size (.dK []) :=
  ⟨Nat.zero_le _, beq_eq_false_iff_ne.mpr (Ne.symm (Nat.ne_of_lt hb)), [], .nil, Heap.DictOf.new h⟩
/-- {}, to be a dict of the kind that is wanted -/
def tDNewK : TE := fun _ H Q => ∀ p, H p = none → Q (.ref p) (upd H p (.dK []))
section
variable {X : Cx} {pos : Pos}
theorem pe_dnewK : PE X (.Dict [] [] pos) tDNewK := fun pins s σ H Q I h =>
  wpAny_Dict_empty ⟨.ref s.heap.objs.size, _, I.laid (a := s.heap.objs.size) (o := .dK []) (t' := s.toks) (fun _ _ q => Heap.get?_push_of_some _ q) (Nat.le_refl _) (dk_empty s.heap I.big), rfl, h _ (I.hok.fresh (Nat.le_refl _))⟩
end

abbrev VV : List (V × V) → List (Value × Value) → Prop := Paired fun p q => RelV p.1 q.1 ∧ RelV p.2 q.2
def mergeK (kvs more : List (Key × V)) : List (Key × V) := more.foldl (fun acc kv => putK acc kv.1 kv.2) kvs
theorem KV.merge : ∀ {more : List (Key × V)} {rs : List (Key × Value)} {kvs : List (Key × V)} {vs : List (Key × Value)}, KV more rs → KV kvs vs → KV (mergeK kvs more) (merged vs rs) := by
  intro more rs kvs vs r
  unfold KV at r
  induction r generalizing kvs vs with
  | nil => intro q; exact q
  | @cons p q ps qs h t ih =>
    intro r0
    have e : KV (putK kvs p.1 p.2) (stored vs q.1 q.2) := by
      have := r0.put p.1 h.2
      rw [← h.1]; exact this
    exact ih e
theorem carries_of {P : Program} {w : World} : ∀ {kvs : List (Key × V)} {ws : List (Value × Value)}, VV (kvs.map fun kv => (kV kv.1, kv.2)) ws → ∃ rs, Carries (mixKind P w) ws rs ∧ KV kvs rs
  | [], _, r => by rw [List.map_nil] at r; cases r; exact ⟨[], True.intro, .nil⟩
  | p :: kvs, _, r => by
    rw [List.map_cons] at r
    cases r with
    | @cons a b as bs h t =>
      obtain ⟨rs, c, q⟩ := carries_of (P := P) (w := w) t
      obtain ⟨b1, b2⟩ := b
      exact ⟨(p.1, b2) :: rs, ⟨kV_is h.1, rfl, c⟩, .cons ⟨rfl, h.2⟩ q⟩
/-! ### methods -/
/-- a method call o.m(e) of a built-in, with one argument: what must be seen of the text -/
structure M1 (X : Cx) (o : Expr) (m : Str) (apos : Pos) (e : Expr) (cpos : Pos) : Prop where
  base : attributeBase o m X.env (eval o X.env) = eval o X.env
  few : ((backTo cpos (starEach [e] X.env)).all (fun x => !x.1) && (backToKw cpos (keywordEach [] X.env)).all (fun x => x.1.isSome)
    && decide (([e] : List Expr).length + ([] : List Keyword).length + (if ([] : List Keyword).isEmpty then 0 else 1) < 30)) = true
  line : (apos.endLine == cpos.line) = true
  trees : backTo cpos (starEach [e] X.env) = [(false, eval e X.env)]
structure M2 (X : Cx) (o : Expr) (m : Str) (apos : Pos) (e f : Expr) (cpos : Pos) : Prop where
  base : attributeBase o m X.env (eval o X.env) = eval o X.env
  few : ((backTo cpos (starEach [e, f] X.env)).all (fun x => !x.1) && (backToKw cpos (keywordEach [] X.env)).all (fun x => x.1.isSome)
    && decide (([e, f] : List Expr).length + ([] : List Keyword).length + (if ([] : List Keyword).isEmpty then 0 else 1) < 30)) = true
  line : (apos.endLine == cpos.line) = true
  trees : backTo cpos (starEach [e, f] X.env) = [(false, eval e X.env), (false, eval f X.env)]

section
variable {X : Cx} {pins : List (Addr × Obj)} {σ : St} {H : Hp} {s : Shared} {a : Addr} {y d : V} {u r : Value} {o : Option V} {A : Around} {E : Value → Shared → Prop}
end

section
variable {X : Cx} {o e f : Expr} {apos cpos : Pos} {td ty tx : TE}
end

/-! ### dict(d): a copy -/
section
variable {X : Cx} {pins : List (Addr × Obj)} {σ : St} {H : Hp} {s : Shared} {a : Addr} {kvs : List (Key × V)} {A : Around} {E : Value → Shared → Prop}
theorem d_copyOf {Q : Value → Shared → Prop} (I : Inv X pins σ H s) (e : Rd H a (.dK kvs)) (h : ∀ p s', H p = none → Inv X pins σ (upd H p (.dK kvs)) s' → Q (.ref p) s') : wpAny (model X.prog X.w) A (call (.type "dict") [.ref a]) Q E s := by
  obtain ⟨z, hd, vs, rel, dd⟩ := dk_rd I.hok e
  refine kt_call_dict hd dd (by rw [← rel.length]; exact z) fun h' dd' hs => ?_
  refine h _ _ (I.hok.fresh (Nat.le_refl _)) (I.laid (a := s.heap.objs.size) (o := .dK kvs) (t' := s.toks) (fun b q hq => ?_) (Nat.le_refl _) (dk_new z (beq_eq_false_iff_ne.mpr (Ne.symm (Nat.ne_of_lt I.big))) rel dd'))
  exact (hs.2 b (Nat.ne_of_lt (Heap.lt_size hq))).trans (Heap.get?_push_of_some _ hq)
end


section
variable {X : Cx} {pins : List (Addr × Obj)} {σ : St} {H : Hp} {s : Shared} {a : Addr} {y : V} {u : Value} {A : Around} {E : Value → Shared → Prop}
end
end L2
set_option Elab.async false
set_option linter.all false
set_option maxRecDepth 100000
set_option maxHeartbeats 4000000
namespace D3
open PySem PySem.Spec PyProof.Rows L2

abbrev St := L2.St
/-- data: tuples by value, lists and dicts by address -/
inductive D where
  | non | bl (b : Bool) | int (i : Int) | str (x : Str) | ty (n : String) | tup (ds : List D) | ref (a : Addr)

mutual
def Is (H : Hp) : D → V → Prop
  | .non, v => v = .non
  | .bl b, v => v = .bl b
  | .int i, v => v = .int i
  | .str x, v => v = .str x
  | .ty n, v => v = .ty n
  | .tup ds, v => ∃ a xs, v = .ref a ∧ H a = some (.tup xs) ∧ IsL H ds xs
  | .ref a, v => v = .ref a
def IsL (H : Hp) : List D → List V → Prop
  | [], xs => xs = []
  | d :: ds, xs => ∃ x r, xs = x :: r ∧ Is H d x ∧ IsL H ds r
end

def Grow (H H' : Hp) : Prop := ∀ b xs, H b = some (.tup xs) → H' b = some (.tup xs)
theorem Grow.refl (H : Hp) : Grow H H := fun _ _ h => h
theorem Grow.trans {H H1 H2 : Hp} (a : Grow H H1) (b : Grow H1 H2) : Grow H H2 := fun c o h => b c o (a c o h)
theorem grow_upd {H : Hp} {p : Addr} {o : HO} (h : ∀ xs, H p ≠ some (.tup xs)) : Grow H (upd H p o) := fun b xs e => by
  have : b ≠ p := by intro z; subst z; exact h xs e
  rw [upd_ne this]; exact e
theorem grow_new {H : Hp} {p : Addr} {o : HO} (h : H p = none) : Grow H (upd H p o) := grow_upd (by intro xs e; rw [h] at e; cases e)

mutual
theorem Is.grow {H H' : Hp} (g : Grow H H') : ∀ (d : D) (v : V), Is H d v → Is H' d v
  | .non, _, h => by unfold Is at h ⊢; exact h
  | .bl _, _, h => by unfold Is at h ⊢; exact h
  | .int _, _, h => by unfold Is at h ⊢; exact h
  | .str _, _, h => by unfold Is at h ⊢; exact h
  | .ty _, _, h => by unfold Is at h ⊢; exact h
  | .ref _, _, h => by unfold Is at h ⊢; exact h
  | .tup ds, v, h => by
    unfold Is at h ⊢
    obtain ⟨a, xs, e, h1, h2⟩ := h
    exact ⟨a, xs, e, g _ _ h1, IsL.grow g ds xs h2⟩
theorem IsL.grow {H H' : Hp} (g : Grow H H') : ∀ (ds : List D) (vs : List V), IsL H ds vs → IsL H' ds vs
  | [], _, h => by unfold IsL at h ⊢; exact h
  | d :: ds, vs, h => by
    unfold IsL at h ⊢
    obtain ⟨x, r, e, h1, h2⟩ := h
    exact ⟨x, r, e, Is.grow g d x h1, IsL.grow g ds r h2⟩
end

theorem is_non {H : Hp} {v : V} : Is H .non v ↔ v = .non := by unfold Is; exact Iff.rfl
theorem is_bl {H : Hp} {v : V} {b : Bool} : Is H (.bl b) v ↔ v = .bl b := by unfold Is; exact Iff.rfl
theorem is_int {H : Hp} {v : V} {i : Int} : Is H (.int i) v ↔ v = .int i := by unfold Is; exact Iff.rfl
theorem is_str {H : Hp} {v : V} {x : Str} : Is H (.str x) v ↔ v = .str x := by unfold Is; exact Iff.rfl
theorem is_ty {H : Hp} {v : V} {x : String} : Is H (.ty x) v ↔ v = .ty x := by unfold Is; exact Iff.rfl
theorem is_ref {H : Hp} {v : V} {a : Addr} : Is H (.ref a) v ↔ v = .ref a := by unfold Is; exact Iff.rfl
theorem is_tup {H : Hp} {v : V} {ds : List D} : Is H (.tup ds) v ↔ ∃ a xs, v = .ref a ∧ H a = some (.tup xs) ∧ IsL H ds xs := by
  constructor
  · intro h; unfold Is at h; exact h
  · intro h; unfold Is; exact h
theorem isl_nil {H : Hp} {vs : List V} : IsL H [] vs ↔ vs = [] := by unfold IsL; exact Iff.rfl
theorem isl_cons {H : Hp} {vs : List V} {d : D} {ds : List D} : IsL H (d :: ds) vs ↔ ∃ x r, vs = x :: r ∧ Is H d x ∧ IsL H ds r := by
  constructor
  · intro h; unfold IsL at h; exact h
  · intro h; unfold IsL; exact h
theorem IsL.len {H : Hp} : ∀ {ds : List D} {vs : List V}, IsL H ds vs → ds.length = vs.length
  | [], vs, h => by rw [isl_nil] at h; rw [h]; rfl
  | d :: ds, vs, h => by
    rw [isl_cons] at h
    obtain ⟨x, r, e, _, h2⟩ := h
    rw [e, List.length_cons, List.length_cons, IsL.len h2]
theorem IsL.get {H : Hp} : ∀ {ds : List D} {vs : List V} {i : Nat} {d : D}, IsL H ds vs → ds[i]? = some d → ∃ v, vs[i]? = some v ∧ Is H d v
  | [], vs, i, d, _, e => by simp at e
  | d' :: ds, vs, 0, d, h, e => by
    rw [isl_cons] at h
    obtain ⟨x, r, e1, h1, _⟩ := h
    simp at e; subst e; subst e1
    exact ⟨x, rfl, h1⟩
  | d' :: ds, vs, i + 1, d, h, e => by
    rw [isl_cons] at h
    obtain ⟨x, r, e1, _, h2⟩ := h
    subst e1
    obtain ⟨v, e2, h3⟩ := IsL.get (i := i) h2 (by simpa using e)
    exact ⟨v, by simpa using e2, h3⟩
theorem IsL.get' {H : Hp} : ∀ {ds : List D} {vs : List V} {i : Nat} {v : V}, IsL H ds vs → vs[i]? = some v → ∃ d, ds[i]? = some d ∧ Is H d v
  | [], vs, i, d, h, e => by rw [isl_nil] at h; subst h; simp at e
  | d' :: ds, vs, 0, v, h, e => by
    rw [isl_cons] at h
    obtain ⟨x, r, e1, h1, _⟩ := h
    subst e1; simp at e; subst e
    exact ⟨d', rfl, h1⟩
  | d' :: ds, vs, i + 1, v, h, e => by
    rw [isl_cons] at h
    obtain ⟨x, r, e1, _, h2⟩ := h
    subst e1
    obtain ⟨d, e2, h3⟩ := IsL.get' (i := i) h2 (by simpa using e)
    exact ⟨d, by simpa using e2, h3⟩
theorem IsL.app {H : Hp} : ∀ {ds es : List D} {vs us : List V}, IsL H ds vs → IsL H es us → IsL H (ds ++ es) (vs ++ us)
  | [], es, vs, us, h, k => by rw [isl_nil] at h; subst h; exact k
  | d :: ds, es, vs, us, h, k => by
    rw [isl_cons] at h
    obtain ⟨x, r, e, h1, h2⟩ := h
    subst e
    show IsL H (d :: (ds ++ es)) (x :: (r ++ us))
    rw [isl_cons]
    exact ⟨x, r ++ us, rfl, h1, h2.app k⟩
theorem IsL.take {H : Hp} : ∀ {ds : List D} {vs : List V} (n : Nat), IsL H ds vs → IsL H (ds.take n) (vs.take n)
  | _, _, 0, _ => by rw [List.take_zero, List.take_zero, isl_nil]
  | [], vs, n + 1, h => by rw [isl_nil] at h; subst h; rw [List.take_nil, List.take_nil, isl_nil]
  | d :: ds, vs, n + 1, h => by
    rw [isl_cons] at h
    obtain ⟨x, r, e, h1, h2⟩ := h
    subst e
    rw [List.take_succ_cons, List.take_succ_cons, isl_cons]
    exact ⟨x, r.take n, rfl, h1, h2.take n⟩
theorem IsL.drop {H : Hp} : ∀ {ds : List D} {vs : List V} (n : Nat), IsL H ds vs → IsL H (ds.drop n) (vs.drop n)
  | _, _, 0, h => h
  | [], vs, n + 1, h => by rw [isl_nil] at h; subst h; rw [List.drop_nil, List.drop_nil, isl_nil]
  | d :: ds, vs, n + 1, h => by
    rw [isl_cons] at h
    obtain ⟨x, r, e, h1, h2⟩ := h
    subst e
    rw [List.drop_succ_cons, List.drop_succ_cons]
    exact h2.drop n
theorem IsL.ints {H : Hp} : ∀ {ns : List Int}, IsL H (ns.map D.int) (ns.map V.int)
  | [] => by rw [List.map_nil, List.map_nil, isl_nil]
  | n :: ns => by rw [List.map_cons, List.map_cons, isl_cons]; exact ⟨_, _, rfl, is_int.mpr rfl, IsL.ints⟩

/-- lists (own, only read), dicts by texts -/
inductive MO where
  | lst (ds : List D) | ro (ds : List D) | dic (kvs : List (Str × D))
  /-- an own error: its class, its own dict, whether it was never raised; the dict of one -/
  | exc (C : Addr) (dd : Option Addr) (fresh : Bool) | att (fs : List (Str × D))
abbrev MH := Addr → Option MO
def mset (M : MH) (a : Addr) (o : MO) : MH := fun b => if b = a then some o else M b
theorem mset_same {M : MH} {a : Addr} {o : MO} : mset M a o a = some o := by unfold mset; rw [if_pos rfl]
theorem mset_ne {M : MH} {a b : Addr} {o : MO} (h : b ≠ a) : mset M a o b = M b := by unfold mset; rw [if_neg h]
theorem mset_old {M : MH} {a b : Addr} {o u : MO} (n : M a = none) (h : M b = some u) : mset M a o b = some u := by
  rw [mset_ne]; exact h
  intro z; subst z; rw [n] at h; cases h

def KvIs (H : Hp) : List (Str × D) → List (Key × V) → Prop
  | [], ys => ys = []
  | (k, d) :: r, ys => ∃ v ys', ys = (Sum.inr k, v) :: ys' ∧ Is H d v ∧ KvIs H r ys'
/-- an error's object -/
def ExcO (a C : Addr) (dd : Option Addr) (fresh : Bool) (h : Heap) : Prop :=
  ∃ o vs, h.get? a = some o ∧ o.cls = .ref C ∧ o.dict = dd ∧ o.data = .fields vs ∧ (fresh = true → o.slots = #[] ∧ ∃ t, vs = #[.ref t, .none, .none, .none, .bool false, .none])
def FsIs (H : Hp) : List (Str × D) → List (Str × V) → Prop
  | [], ys => ys = []
  | (k, d) :: r, ys => ∃ v ys', ys = (k, v) :: ys' ∧ Is H d v ∧ FsIs H r ys'
def IsM (K : PySem.W.Frag) (H : Hp) (a : Addr) : MO → Prop
  | .lst ds => ∃ xs, H a = some (.lst xs) ∧ IsL H ds xs
  | .ro ds => ∃ xs, SqL K H a xs ∧ IsL H ds xs
  | .dic kvs => ∃ ys, H a = some (.dK ys) ∧ KvIs H kvs ys
  | .exc C dd fr => H a = some (.ext (ExcO a C dd fr))
  | .att fs => ∃ ys, H a = some (.xd ys) ∧ FsIs H fs ys
theorem FsIs.grow {H H' : Hp} (g : Grow H H') : ∀ {fs : List (Str × D)} {ys : List (Str × V)}, FsIs H fs ys → FsIs H' fs ys
  | [], ys, h => h
  | (k, d) :: r, ys, h => by
    obtain ⟨v, ys', e, h1, h2⟩ := h
    exact ⟨v, ys', e, Is.grow g _ _ h1, FsIs.grow g h2⟩
theorem KvIs.grow {H H' : Hp} (g : Grow H H') : ∀ {kvs : List (Str × D)} {ys : List (Key × V)}, KvIs H kvs ys → KvIs H' kvs ys
  | [], ys, h => h
  | (k, d) :: r, ys, h => by
    obtain ⟨v, ys', e, h1, h2⟩ := h
    exact ⟨v, ys', e, Is.grow g _ _ h1, KvIs.grow g h2⟩
def MemOk (K : PySem.W.Frag) (M : MH) (H : Hp) : Prop := ∀ a o, M a = some o → IsM K H a o
/-- no object of the module is tracked -/
def KF (K : PySem.W.Frag) (H : Hp) : Prop := ∀ a o, K.lookup a = some o → H a = none

theorem IsM.there {K : PySem.W.Frag} {H : Hp} {a : Addr} {o : MO} (h : IsM K H a o) : (∃ u, H a = some u) ∨ ∃ u, K.lookup a = some u := by
  cases o with
  | lst ds => obtain ⟨xs, e, _⟩ := h; exact .inl ⟨_, e⟩
  | dic kvs => obtain ⟨xs, e, _⟩ := h; exact .inl ⟨_, e⟩
  | att fs => obtain ⟨xs, e, _⟩ := h; exact .inl ⟨_, e⟩
  | exc C dd fr => exact .inl ⟨_, h⟩
  | ro ds =>
    obtain ⟨xs, e, _⟩ := h
    rcases e with (e | ⟨o, e⟩) | ⟨o, _, _, e, _⟩
    · exact .inl ⟨_, e⟩
    · exact .inl ⟨_, e⟩
    · exact .inr ⟨_, e⟩
/-- a new address is none that the ledger knows -/
theorem MemOk.fresh {K : PySem.W.Frag} {M : MH} {H : Hp} {p : Addr} {o : HO} (m : MemOk K M H) (hp : H p = none) (kf : KF K (upd H p o)) : M p = none := by
  cases e : M p with
  | none => rfl
  | some u =>
    rcases (m p u e).there with ⟨u, h⟩ | ⟨u, h⟩
    · rw [hp] at h; cases h
    · have := kf p u h
      rw [upd_same] at this; cases this
/-- the objects stay when another place changes -/
theorem IsM.stay {K : PySem.W.Frag} {H H' : Hp} {a : Addr} {o : MO} (g : Grow H H') (same : ∀ u, H a = some u → H' a = some u) (h : IsM K H a o) : IsM K H' a o := by
  cases o with
  | lst ds => obtain ⟨xs, e, q⟩ := h; exact ⟨xs, same _ e, q.grow g⟩
  | dic kvs => obtain ⟨xs, e, q⟩ := h; exact ⟨xs, same _ e, q.grow g⟩
  | att fs => obtain ⟨xs, e, q⟩ := h; exact ⟨xs, same _ e, q.grow g⟩
  | exc C dd fr => exact same _ h
  | ro ds =>
    obtain ⟨xs, e, q⟩ := h
    refine ⟨xs, ?_, q.grow g⟩
    rcases e with (e | ⟨o, e⟩) | e
    · exact .inl (.inl (same _ e))
    · exact .inl (.inr ⟨o, same _ e⟩)
    · exact .inr e
theorem MemOk.new {K : PySem.W.Frag} {M : MH} {H : Hp} {p : Addr} {o : HO} (m : MemOk K M H) (hp : H p = none) : MemOk K M (upd H p o) := fun a u e =>
  (m a u e).stay (grow_new hp) fun v h => by rw [upd_ne (ne_of_none h hp)]; exact h
/-- a new object is laid -/
theorem MemOk.lay {K : PySem.W.Frag} {M : MH} {H : Hp} {p : Addr} {o : HO} {u : MO} (m : MemOk K M H) (hp : H p = none) (h : IsM K (upd H p o) p u) : MemOk K (mset M p u) (upd H p o) := fun a v e => by
  by_cases z : a = p
  · subst z; rw [mset_same] at e; cases e; exact h
  · rw [mset_ne z] at e; exact m.new hp a v e
/-- an object is written -/
theorem MemOk.put {K : PySem.W.Frag} {M : MH} {H : Hp} {p : Addr} {o : HO} {u : MO} (m : MemOk K M H) (hp : ∀ xs, H p ≠ some (.tup xs)) (h : IsM K (upd H p o) p u) : MemOk K (mset M p u) (upd H p o) := fun a v e => by
  by_cases z : a = p
  · subst z; rw [mset_same] at e; cases e; exact h
  · rw [mset_ne z] at e
    exact (m a v e).stay (grow_upd hp) fun w q => by rw [upd_ne z]; exact q

abbrev Ga := List (Option D)
abbrev DK := D → MH → Prop
structure Rel (X : Cx) (G : Ga) (M : MH) (σ : St) (H : Hp) : Prop where
  loc : ∀ (i : Nat) (d : D), G[i]? = some (some d) → ∃ v, σ[i]? = some (some v) ∧ Is H d v
  mem : MemOk X.K M H
theorem Rel.to {X : Cx} {G : Ga} {M M' : MH} {σ : St} {H H' : Hp} (R : Rel X G M σ H) (g : Grow H H') (m : MemOk X.K M' H') : Rel X G M' σ H' :=
  ⟨fun i d e => let ⟨v, e1, h⟩ := R.loc i d e; ⟨v, e1, Is.grow g _ _ h⟩, m⟩
theorem Rel.set {X : Cx} {G : Ga} {M : MH} {σ : St} {H : Hp} {i : Nat} {d : D} {v : V} (R : Rel X G M σ H) (hi : i < σ.length) (h : Is H d v) : Rel X (G.set i (some d)) M (σ.set i (some v)) H :=
  ⟨fun j e q => by
    by_cases z : i = j
    · subst z
      by_cases hG : i < G.length
      · rw [List.getElem?_set_self hG] at q
        cases q
        exact ⟨v, List.getElem?_set_self hi, h⟩
      · rw [List.getElem?_eq_none (by rw [List.length_set]; omega)] at q; cases q
    · rw [List.getElem?_set_ne z] at q
      obtain ⟨w, e1, h1⟩ := R.loc j e q
      exact ⟨w, by rw [List.getElem?_set_ne z]; exact e1, h1⟩, R.mem⟩
theorem kf_of {X : Cx} {pins : List (Addr × Obj)} {σ : St} {H : Hp} {s : Shared} (I : Inv X pins σ H s) : KF X.K H := fun a o e => (I.bs a o (I.mod.kin a o e)).2

def EPD (X : Cx) (pins : List (Addr × Obj)) (σ : St) (G : Ga) (H : Hp) (Q : DK) (u : Value) (s' : Shared) : Prop :=
  ∃ v H' d M', Inv X pins σ H' s' ∧ RelV v u ∧ Grow H H' ∧ Is H' d v ∧ Rel X G M' σ H' ∧ Q d M'
/-- an expression -/
def EV (X : Cx) (G : Ga) (M : MH) (e : Expr) (Q : DK) : Prop :=
  ∀ (pins : List (Addr × Obj)) (s : Shared) (σ : St) (H : Hp), Inv X pins σ H s → Rel X G M σ H → wpAny (model X.prog X.w) X.A (eval e X.env) (EPD X pins σ G H Q) X.xe s
def TPD (X : Cx) (pins : List (Addr × Obj)) (σ : St) (G : Ga) (H : Hp) (Q : Bool → MH → Prop) (b : Bool) (s' : Shared) : Prop :=
  ∃ H' M', Inv X pins σ H' s' ∧ Grow H H' ∧ Rel X G M' σ H' ∧ Q b M'
/-- a test -/
def TV (X : Cx) (G : Ga) (M : MH) (e : Expr) (Q : Bool → MH → Prop) : Prop :=
  ∀ (pins : List (Addr × Obj)) (s : Shared) (σ : St) (H : Hp), Inv X pins σ H s → Rel X G M σ H → wpAny (model X.prog X.w) X.A (isTrue e X.env (eval e X.env)) (TPD X pins σ G H Q) X.xe s
/-- a test whatever its whole is -/
def TW (X : Cx) (G : Ga) (M : MH) (e : Expr) (Q : Bool → MH → Prop) : Prop :=
  ∀ (whole : Sem Value) (pins : List (Addr × Obj)) (s : Shared) (σ : St) (H : Hp), Inv X pins σ H s → Rel X G M σ H → wpAny (model X.prog X.w) X.A (isTrue e X.env whole) (TPD X pins σ G H Q) X.xe s
theorem TW.tv {X : Cx} {G : Ga} {M : MH} {e : Expr} {Q : Bool → MH → Prop} (h : TW X G M e Q) : TV X G M e Q := h _
def APD (X : Cx) (pins : List (Addr × Obj)) (σ : St) (G : Ga) (H : Hp) (Q : List D → MH → Prop) (us : List Value) (s' : Shared) : Prop :=
  ∃ vs H' ds M', Inv X pins σ H' s' ∧ Vals vs us ∧ Grow H H' ∧ IsL H' ds vs ∧ Rel X G M' σ H' ∧ Q ds M'
/-- an argument list -/
def AV (X : Cx) (G : Ga) (M : MH) (es : List Expr) (Q : List D → MH → Prop) : Prop :=
  ∀ (pos : Pos) (pins : List (Addr × Obj)) (s : Shared) (σ : St) (H : Hp), Inv X pins σ H s → Rel X G M σ H → wpAny (model X.prog X.w) X.A (spliced (backTo pos (starEach es X.env))) (APD X pins σ G H Q) X.xe s
structure EndsD where
  nx : Ga → MH → Prop
  rt : DK
  bk : Ga → MH → Prop := fun _ _ => False
  ct : Ga → MH → Prop := fun _ _ => False
def SPD (X : Cx) (pins : List (Addr × Obj)) (H : Hp) (E : EndsD) (f : Flow) (s' : Shared) : Prop :=
  match f with
  | .next => ∃ σ' H' G' M', Inv X pins σ' H' s' ∧ Grow H H' ∧ Rel X G' M' σ' H' ∧ E.nx G' M'
  | .brk => ∃ σ' H' G' M', Inv X pins σ' H' s' ∧ Grow H H' ∧ Rel X G' M' σ' H' ∧ E.bk G' M'
  | .cont => ∃ σ' H' G' M', Inv X pins σ' H' s' ∧ Grow H H' ∧ Rel X G' M' σ' H' ∧ E.ct G' M'
  | .ret u => ∃ v σ' H' d M', Inv X pins σ' H' s' ∧ RelV v u ∧ Grow H H' ∧ Is H' d v ∧ MemOk X.K M' H' ∧ E.rt d M'
def EX (X : Cx) (G : Ga) (M : MH) (st : Stmt) (E : EndsD) : Prop :=
  ∀ (pins : List (Addr × Obj)) (s : Shared) (σ : St) (H : Hp), Inv X pins σ H s → Rel X G M σ H → wpAny (model X.prog X.w) X.A (exec st X.env) (SPD X pins H E) X.xe s
def EXs (X : Cx) (G : Ga) (M : MH) (st : List Stmt) (E : EndsD) : Prop :=
  ∀ (pins : List (Addr × Obj)) (s : Shared) (σ : St) (H : Hp), Inv X pins σ H s → Rel X G M σ H → wpAny (model X.prog X.w) X.A (execs st X.env) (SPD X pins H E) X.xe s
theorem EPD.grow {X : Cx} {pins : List (Addr × Obj)} {σ : St} {G : Ga} {H0 H : Hp} {Q : DK} {u : Value} {s' : Shared} (g : Grow H0 H) (h : EPD X pins σ G H Q u s') : EPD X pins σ G H0 Q u s' :=
  let ⟨v, H', d, M', I, r, g', i, R, q⟩ := h; ⟨v, H', d, M', I, r, g.trans g', i, R, q⟩
theorem TPD.grow {X : Cx} {pins : List (Addr × Obj)} {σ : St} {G : Ga} {H0 H : Hp} {Q : Bool → MH → Prop} {u : Bool} {s' : Shared} (g : Grow H0 H) (h : TPD X pins σ G H Q u s') : TPD X pins σ G H0 Q u s' :=
  let ⟨H', M', I, g', R, q⟩ := h; ⟨H', M', I, g.trans g', R, q⟩
theorem SPD.grow {X : Cx} {pins : List (Addr × Obj)} {H0 H : Hp} {E : EndsD} {f : Flow} {s' : Shared} (g : Grow H0 H) (h : SPD X pins H E f s') : SPD X pins H0 E f s' := by
  cases f with
  | next => obtain ⟨σ', H', G', M', I, g', R, q⟩ := h; exact ⟨σ', H', G', M', I, g.trans g', R, q⟩
  | brk => obtain ⟨σ', H', G', M', I, g', R, q⟩ := h; exact ⟨σ', H', G', M', I, g.trans g', R, q⟩
  | cont => obtain ⟨σ', H', G', M', I, g', R, q⟩ := h; exact ⟨σ', H', G', M', I, g.trans g', R, q⟩
  | ret u => obtain ⟨v, σ', H', d, M', I, r, g', i, R, q⟩ := h; exact ⟨v, σ', H', d, M', I, r, g.trans g', i, R, q⟩

section
variable {X : Cx} {G : Ga} {M : MH} {a b c e : Expr} {es rest : List Expr} {pos : Pos} {Q : DK}
theorem EV.mono {Q' : DK} (h : EV X G M e Q) (k : ∀ d M', Q d M' → Q' d M') : EV X G M e Q' := fun pins s σ H I R =>
  thn (h pins s σ H I R) fun u s' ⟨v, H', d, M', I', r, g, i, R', q⟩ => ⟨v, H', d, M', I', r, g, i, R', k _ _ q⟩
/-- from a rule of the layer below for an expression without parts -/
theorem EV.of {t : TE} (h : PE X e t) (k : ∀ σ H, KF X.K H → Rel X G M σ H → t σ H fun v H' => KF X.K H' → Grow H H' ∧ ∃ d M', Is H' d v ∧ MemOk X.K M' H' ∧ Q d M') : EV X G M e Q := fun pins s σ H I R =>
  thn (h pins s σ H _ I (k σ H (kf_of I) R)) fun u s' ⟨v, H', I', r, q⟩ =>
    let ⟨g, d, M', i, m, q⟩ := q (kf_of I')
    ⟨v, H', d, M', I', r, g, i, R.to g m, q⟩
theorem ev_var (i : Nat) {d : D} {x : Str} (q : Q d M) (hN : X.N[i]? = some x := by rfl) (hG : G[i]? = some (some d) := by rfl) (hv : Vis X.env.scope x := by first | exact Or.inl rfl | exact Or.inr (Or.inl rfl) | exact Or.inr (Or.inr rfl))
    (hd : (x == ("__debug__" : Str)) = false := by decide) (hcd : (x == ("__classdict__" : Str)) = false := by decide) : EV X G M (.Name x pos) Q :=
  EV.of (pe_var hN hv hd hcd) fun σ H kf R => let ⟨v, e1, h⟩ := R.loc i d hG; ⟨v, e1, fun _ => ⟨Grow.refl _, d, M, h, R.mem, q⟩⟩
theorem ev_int {i : Int} {j} (q : Q (.int i) M) : EV X G M (.Constant (.int i) j pos) Q := EV.of pe_int fun σ H kf R => show _ from fun _ => ⟨Grow.refl _, _, M, is_int.mpr rfl, R.mem, q⟩
theorem ev_bl {i : Bool} {j} (q : Q (.bl i) M) : EV X G M (.Constant (.bool i) j pos) Q := EV.of pe_bl fun σ H kf R => show _ from fun _ => ⟨Grow.refl _, _, M, is_bl.mpr rfl, R.mem, q⟩
theorem ev_non {j} (q : Q .non M) : EV X G M (.Constant .none j pos) Q := EV.of pe_non fun σ H kf R => show _ from fun _ => ⟨Grow.refl _, _, M, is_non.mpr rfl, R.mem, q⟩
theorem ev_str {x} {j} (q : Q (.str x) M) : EV X G M (.Constant (.str x) j pos) Q := EV.of pe_str fun σ H kf R => show _ from fun _ => ⟨Grow.refl _, _, M, is_str.mpr rfl, R.mem, q⟩
/-- a constant int of the module -/
theorem ev_gint {x : Str} {i : Int} {t : Tok} (hm : X.mg x = some (.int i t)) (q : Q (.int i) M) (hg : Gl X x := by rfl) (hd : (x == ("__debug__" : Str)) = false := by decide) : EV X G M (.Name x pos) Q :=
  EV.of (pe_glob (v := .int i) hg hm ⟨_, rfl⟩ hd) fun σ H kf R => show _ from fun _ => ⟨Grow.refl _, _, M, is_int.mpr rfl, R.mem, q⟩
/-- a built-in class as a value -/
theorem ev_gty {x : Str} {n : String} (hm : X.mg x = none) (hv : bootBuiltins x = some (.type n)) (q : Q (.ty n) M) (hg : Gl X x := by rfl) (hn : x ≠ "__name__" := by decide) (hd : (x == ("__debug__" : Str)) = false := by decide) : EV X G M (.Name x pos) Q :=
  EV.of (pe_bltn (v := .ty n) hg hm hv rfl hn hd) fun σ H kf R => show _ from fun _ => ⟨Grow.refl _, _, M, is_ty.mpr rfl, R.mem, q⟩

/-! ### operations by values -/
abbrev RDP (K : PySem.W.Frag) (H : Hp) (Q : DK) : VK := fun v H' => KF K H' → Grow H H' ∧ ∃ d M', Is H' d v ∧ MemOk K M' H' ∧ Q d M'
def RD (K : PySem.W.Frag) (r : R2) (da db : D) (M : MH) (Q : DK) : Prop := ∀ H x y, KF K H → Is H da x → Is H db y → MemOk K M H → r x y H (RDP K H Q)
def RU (K : PySem.W.Frag) (r : V → Hp → VK → Prop) (da : D) (M : MH) (Q : DK) : Prop := ∀ H x, KF K H → Is H da x → MemOk K M H → r x H (RDP K H Q)
def RC (K : PySem.W.Frag) (r : List V → Hp → VK → Prop) (ds : List D) (M : MH) (Q : DK) : Prop := ∀ H xs, KF K H → IsL H ds xs → MemOk K M H → r xs H (RDP K H Q)
theorem rd_fin {pins : List (Addr × Obj)} {σ : St} {H0 H : Hp} {u : Value} {s' : Shared} (g0 : Grow H0 H) {M0 : MH} (R : Rel X G M0 σ H) (h : EP X pins σ (RDP X.K H Q) u s') : EPD X pins σ G H0 Q u s' :=
  let ⟨v, H', I', r, q⟩ := h
  let ⟨g, d, M', i, m, q⟩ := q (kf_of I')
  ⟨v, H', d, M', I', r, g0.trans g, i, R.to g m, q⟩
theorem ev2 {f : Value → Value → Sem Value} {r : R2} (ho : OpR X f r) (h : EV X G M a fun da Ma => EV X G Ma b fun db Mb => RD X.K r da db Mb Q)
    {pins : List (Addr × Obj)} {s : Shared} {σ : St} {H : Hp} (I : Inv X pins σ H s) (R : Rel X G M σ H) :
    wpAny (model X.prog X.w) X.A (eval a X.env) (fun v s1 => wpAny (model X.prog X.w) X.A (eval b X.env) (fun u s2 => wpAny (model X.prog X.w) X.A (f v u) (EPD X pins σ G H Q) X.xe s2) X.xe s1) X.xe s := by
  refine thn (h pins s σ H I R) fun v s1 ⟨x, H1, da, Ma, I1, r1, g1, i1, R1, q1⟩ => ?_
  refine thn (q1 pins s1 σ H1 I1 R1) fun u s2 ⟨y, H2, db, Mb, I2, r2, g2, i2, R2, q2⟩ => ?_
  exact thn (ho pins s2 σ H2 x y v u _ I2 r1 r2 (q2 H2 x y (kf_of I2) (Is.grow g2 _ _ i1) i2 R2.mem)) fun w s3 h3 => rd_fin (g1.trans g2) R2 h3
theorem ev_op {op : Operator} {r : R2} (ho : OpR X (binaryOp op) r) (h : EV X G M a fun da Ma => EV X G Ma b fun db Mb => RD X.K r da db Mb Q) : EV X G M (.BinOp a op b pos) Q :=
  fun pins s σ H I R => wpAny_BinOp (ev2 ho h I R)
theorem ev_un {op : UnaryOp} {r : V → Hp → VK → Prop} (ho : UnR X (unaryOp op) r) (h : EV X G M a fun da Ma => RU X.K r da Ma Q) : EV X G M (.UnaryOp op a pos) Q :=
  fun pins s σ H I R => UnaryOp_ (thn (h pins s σ H I R) fun v s1 ⟨x, H1, da, Ma, I1, r1, g1, i1, R1, q1⟩ =>
    thn (ho pins s1 σ H1 x v _ I1 r1 (q1 H1 x (kf_of I1) i1 R1.mem)) fun w s3 h3 => rd_fin g1 R1 h3)
theorem ev_cmp {op : CmpOp} {r : R2} (ho : OpR X (compareOp op) r) (hm : behindInMarks op b = false) (h : EV X G M a fun da Ma => EV X G Ma b fun db Mb => RD X.K r da db Mb Q) : EV X G M (.Compare a [op] [b] pos) Q :=
  fun pins s σ H I R => wpAny_Compare1 (ev2 ho h I R) hm
/-- a comparison as a test -/
theorem tv_cmp {op : CmpOp} {r : R2} {Qb : Bool → MH → Prop} (ho : OpR X (compareOp op) r) (hm : behindInMarks op b = false)
    (h : EV X G M a fun da Ma => EV X G Ma b fun db Mb => RD X.K r da db Mb fun d M' => ∃ k, d = .bl k ∧ Qb k M') : TV X G M (.Compare a [op] [b] pos) Qb := by
  intro pins s σ H I R
  refine wpAny_isTrue_Compare1 (thn (ev2 ho h I R) fun v s1 h1 => thn h1 fun u s2 h2 => thn h2 fun w s3 ⟨z, H3, d, M3, I3, r3, g3, i3, R3, k, e, q⟩ => ?_) hm
  subst e
  rw [is_bl] at i3; subst i3
  cases r3
  exact wpAny_truthy_bool ⟨H3, M3, I3, g3, R3, q⟩
/-- the truth of a value -/
def TruD (K : PySem.W.Frag) (d : D) (M : MH) (k : Bool) : Prop := match d with
  | .non => k = false
  | .bl b => k = b
  | .int i => k = (i != 0)
  | .tup ds => k = !ds.isEmpty
  | .ref a => (∃ ds, M a = some (.lst ds) ∧ k = !ds.isEmpty) ∨ (∃ ds, M a = some (.ro ds) ∧ k = !ds.isEmpty)
  | _ => False
theorem IsL.empty {H : Hp} {ds : List D} {vs : List V} (h : IsL H ds vs) : ds.isEmpty = vs.isEmpty := by
  cases ds with
  | nil => rw [isl_nil] at h; subst h; rfl
  | cons d r => rw [isl_cons] at h; obtain ⟨_, _, e, _⟩ := h; subst e; rfl
theorem tru_of {K : PySem.W.Frag} {H : Hp} {d : D} {M : MH} {v : V} {k : Bool} (m : MemOk K M H) (i : Is H d v) (t : TruD K d M k) : TruV K v H k := by
  cases d with
  | non => rw [is_non] at i; subst i; exact t
  | bl b => rw [is_bl] at i; subst i; exact t
  | int b => rw [is_int] at i; subst i; exact t
  | tup ds =>
    rw [is_tup] at i
    obtain ⟨a, xs, rfl, h1, h2⟩ := i
    exact .inr (.inl ⟨xs, SqT.of h1, by rw [← h2.empty]; exact t⟩)
  | ref a =>
    rw [is_ref] at i; subst i
    rcases t with ⟨ds, h, e⟩ | ⟨ds, h, e⟩
    · obtain ⟨xs, h1, h2⟩ := m a _ h
      exact .inl ⟨xs, SqL.of h1, by rw [← h2.empty]; exact e⟩
    · obtain ⟨xs, h1, h2⟩ := m a _ h
      exact .inl ⟨xs, h1, by rw [← h2.empty]; exact e⟩
  | str x => exact t.elim
  | ty x => exact t.elim
theorem tv_of {Qb : Bool → MH → Prop} (h : EV X G M e fun d M' => ∃ k, TruD X.K d M' k ∧ Qb k M') (he : ∀ whole, isTrue e X.env whole = (do let v ← whole; standAt e.pos; holding [v] (truthy v)) := by intro _; rfl) : TV X G M e Qb := by
  intro pins s σ H I R
  refine isTrue_plain (thn (h pins s σ H I R) fun v s1 ⟨x, H1, d, M1, I1, r1, g1, i1, R1, k, t, q⟩ => ?_) (he _)
  exact thn (tru_ok pins s1 σ H1 x v (fun b H' => b = k ∧ H' = H1) I1 r1 ⟨k, tru_of R1.mem i1 t, rfl, rfl⟩) fun b s2 ⟨H2, I2, e1, e2⟩ => by
    subst e1; subst e2
    exact ⟨H2, M1, I2, g1, R1, q⟩
theorem tv_not {Qb : Bool → MH → Prop} (h : TV X G M a fun k M' => Qb (!k) M') : TV X G M (.UnaryOp .Not a pos) Qb := by
  intro pins s σ H I R
  exact isTrue_not (thn (h pins s σ H I R) fun b s1 h1 => h1)
theorem tw_and1 {Qb : Bool → MH → Prop} (h : TV X G M a Qb) : TW X G M (.BoolOp .And [a] pos) Qb := by
  intro wh pins s σ H I R
  refine isTrue_and (thn (h pins s σ H I R) fun c s1 e => ?_)
  cases c with
  | true => exact isTrue_and_nil e
  | false => exact e
theorem tw_or1 {Qb : Bool → MH → Prop} (h : TV X G M a Qb) : TW X G M (.BoolOp .Or [a] pos) Qb := by
  intro wh pins s σ H I R
  refine isTrue_or (thn (h pins s σ H I R) fun c s1 e => ?_)
  cases c with
  | false => exact isTrue_or_nil e
  | true => exact e
theorem tw_and {Qb : Bool → MH → Prop} (h : TV X G M a fun k M1 => if k = true then TW X G M1 (.BoolOp .And (b :: rest) pos) Qb else Qb false M1) : TW X G M (.BoolOp .And (a :: b :: rest) pos) Qb := by
  intro wh pins s σ H I R
  refine isTrue_and (thn (h pins s σ H I R) fun c s1 ⟨H1, M1, I1, g1, R1, q1⟩ => ?_)
  cases c with
  | true => exact thn (q1 wh pins s1 σ H1 I1 R1) fun b s2 h2 => h2.grow g1
  | false => exact ⟨H1, M1, I1, g1, R1, q1⟩
theorem tw_or {Qb : Bool → MH → Prop} (h : TV X G M a fun k M1 => if k = true then Qb true M1 else TW X G M1 (.BoolOp .Or (b :: rest) pos) Qb) : TW X G M (.BoolOp .Or (a :: b :: rest) pos) Qb := by
  intro wh pins s σ H I R
  refine isTrue_or (thn (h pins s σ H I R) fun c s1 ⟨H1, M1, I1, g1, R1, q1⟩ => ?_)
  cases c with
  | true => exact ⟨H1, M1, I1, g1, R1, q1⟩
  | false => exact thn (q1 wh pins s1 σ H1 I1 R1) fun b s2 h2 => h2.grow g1
theorem ev_one {op} (h : EV X G M a Q) : EV X G M (.BoolOp op [a] pos) Q := fun pins s σ H I R => BoolOp_one (h pins s σ H I R)
theorem ev_and (h : EV X G M a fun d M1 => ∃ k, d = .bl k ∧ if k = true then EV X G M1 (.BoolOp .And (b :: rest) pos) Q else Q (.bl false) M1) : EV X G M (.BoolOp .And (a :: b :: rest) pos) Q := by
  intro pins s σ H I R
  refine BoolOp_and (thn (h pins s σ H I R) fun v s1 ⟨x, H1, d, M1, I1, r1, g1, i1, R1, k, e, q1⟩ => ?_)
  subst e
  rw [is_bl] at i1; subst i1
  cases r1
  refine wpAny_truthy_bool ?_
  cases k with
  | true => exact thn (q1 pins s1 σ H1 I1 R1) fun b s2 h2 => h2.grow g1
  | false => exact ⟨.bl false, H1, _, M1, I1, rfl, g1, is_bl.mpr rfl, R1, q1⟩
theorem ev_or (h : EV X G M a fun d M1 => ∃ k, d = .bl k ∧ if k = true then Q (.bl true) M1 else EV X G M1 (.BoolOp .Or (b :: rest) pos) Q) : EV X G M (.BoolOp .Or (a :: b :: rest) pos) Q := by
  intro pins s σ H I R
  refine BoolOp_or (thn (h pins s σ H I R) fun v s1 ⟨x, H1, d, M1, I1, r1, g1, i1, R1, k, e, q1⟩ => ?_)
  subst e
  rw [is_bl] at i1; subst i1
  cases r1
  refine wpAny_truthy_bool ?_
  cases k with
  | false => exact thn (q1 pins s1 σ H1 I1 R1) fun b s2 h2 => h2.grow g1
  | true => exact ⟨.bl true, H1, _, M1, I1, rfl, g1, is_bl.mpr rfl, R1, q1⟩
theorem ev_not (h : EV X G M a fun d M1 => ∃ k, d = .bl k ∧ Q (.bl (!k)) M1) : EV X G M (.UnaryOp .Not a pos) Q := by
  intro pins s σ H I R
  refine UnaryOp_ (thn (h pins s σ H I R) fun v s1 ⟨x, H1, d, M1, I1, r1, g1, i1, R1, k, e, q1⟩ => ?_)
  subst e
  rw [is_bl] at i1; subst i1
  cases r1
  exact not_of (wpAny_truthy_bool ⟨.bl (!k), H1, _, M1, I1, rfl, g1, is_bl.mpr rfl, R1, q1⟩)
theorem ev_ifExp (h : TV X G M c fun k M1 => if k = true then EV X G M1 a Q else EV X G M1 b Q) : EV X G M (.IfExp c a b pos) Q := by
  intro pins s σ H I R
  refine wpAny_IfExp (thn (h pins s σ H I R) fun d s1 ⟨H1, M1, I1, g1, R1, q1⟩ => ?_)
  cases d with
  | true => exact thn (q1 pins s1 σ H1 I1 R1) fun b s2 h2 => h2.grow g1
  | false => exact thn (q1 pins s1 σ H1 I1 R1) fun b s2 h2 => h2.grow g1

/-! ### argument lists, displays -/
theorem av_nil {Qa : List D → MH → Prop} (q : Qa [] M) : AV X G M [] Qa := fun _ pins s σ H I R => Calls.spliced_nil ⟨[], H, [], M, I, .nil, Grow.refl _, isl_nil.mpr rfl, R, q⟩
theorem av_cons {Qa : List D → MH → Prop} (h : EV X G M e fun d M1 => AV X G M1 es fun ds M2 => Qa (d :: ds) M2) (hs : starEach (e :: es) X.env = (false, eval e X.env) :: starEach es X.env := by rfl) : AV X G M (e :: es) Qa := by
  intro pos pins s σ H I R
  rw [hs]
  show wpAny _ _ (spliced ((false, eval e X.env) :: backTo pos (starEach es X.env))) _ _ s
  refine Calls.spliced_cons (thn (h pins s σ H I R) fun u s1 ⟨x, H1, d, M1, I1, r1, g1, i1, R1, q1⟩ => ?_)
  exact thn (q1 pos pins s1 σ H1 I1 R1) fun us s2 ⟨xs, H2, ds, M2, I2, r2, g2, i2, R2, q2⟩ =>
    ⟨x :: xs, H2, d :: ds, M2, I2, .cons r1 r2, g1.trans g2, isl_cons.mpr ⟨x, xs, rfl, Is.grow g2 _ _ i1, i2⟩, R2, q2⟩
theorem ev_tup {k} (h : AV X G M es fun ds M1 => ds.length ≤ sizeLine ∧ Q (.tup ds) M1) : EV X G M (.Tuple es k pos) Q := by
  intro pins s σ H I R
  refine wpAny_Tuple_spliced (thn (h pos pins s σ H I R) fun us s1 ⟨xs, H1, ds, M1, I1, r, g1, i1, R1, z, q⟩ => ?_)
  have hl := i1.len
  refine ⟨by rw [← r.length, ← hl]; exact z, ?_⟩
  have hf : H1 s1.heap.objs.size = none := I1.hok.fresh (Nat.le_refl _)
  refine ⟨.ref s1.heap.objs.size, upd H1 s1.heap.objs.size (.tup xs), .tup ds, M1, I1.laid (t' := s1.toks) (fun b u e => Heap.get?_push_of_some _ e) (Nat.le_refl _) ⟨by rw [← hl]; exact z, us, r, ⟨_, Heap.get?_push_size _ rfl, rfl, _, rfl⟩⟩, rfl, g1.trans (grow_new hf), ?_, R1.to (grow_new hf) (R1.mem.new hf), q⟩
  exact is_tup.mpr ⟨_, xs, rfl, upd_same, i1.grow (grow_new hf)⟩
theorem ev_lst (h : AV X G M es fun ds M1 => ds.length ≤ sizeLine ∧ ∀ p, M1 p = none → Q (.ref p) (mset M1 p (.lst ds))) : EV X G M (.List es pos) Q := by
  intro pins s σ H I R
  refine wpAny_List_spliced (thn (h pos pins s σ H I R) fun us s1 ⟨xs, H1, ds, M1, I1, r, g1, i1, R1, z, q⟩ => ?_)
  have hl := i1.len
  refine ⟨by rw [← r.length, ← hl]; exact z, ?_⟩
  have hf : H1 s1.heap.objs.size = none := I1.hok.fresh (Nat.le_refl _)
  have I2 := I1.laid (o := .lst xs) (t' := s1.toks) (h' := s1.heap.push { cls := .type "list", data := .seq us.toArray }) (fun b u e => Heap.get?_push_of_some _ e) (Nat.le_refl _) ⟨by rw [← hl]; exact z, us, 0, r, Heap.get?_push_size _ rfl⟩
  refine ⟨.ref s1.heap.objs.size, upd H1 s1.heap.objs.size (.lst xs), .ref s1.heap.objs.size, mset M1 s1.heap.objs.size (.lst ds), I2, rfl, g1.trans (grow_new hf), is_ref.mpr rfl, R1.to (grow_new hf) (R1.mem.lay hf ⟨xs, upd_same, i1.grow (grow_new hf)⟩), q _ (R1.mem.fresh hf (kf_of I2))⟩

/-! ### subscripts -/
theorem ev_ix {r : R2} (hr : IxR X r) (hs : PlainIx b) (h : EV X G M a fun da Ma => EV X G Ma b fun db Mb => RD X.K r da db Mb Q) : EV X G M (.Subscript a b pos) Q := by
  intro pins s σ H I R
  refine Subscript_ (thn (h pins s σ H I R) fun v s1 ⟨x, H1, da, Ma, I1, r1, g1, i1, R1, q1⟩ => ?_)
  refine thn (q1 pins s1 σ H1 I1 R1) fun u s2 ⟨y, H2, db, Mb, I2, r2, g2, i2, R2, q2⟩ => ?_
  exact thn (hr a b pins s2 σ H2 x y v u _ I2 r1 r2 (q2 H2 x y (kf_of I2) (Is.grow g2 _ _ i1) i2 R2.mem) (hs _ _)) fun w s3 h3 => rd_fin (g1.trans g2) R2 h3
/-- an item of a tuple or a list -/
def IxD (da : D) (i : Int) (M : MH) (Q : DK) : Prop := match da with
  | .tup ds => ∃ d, atI ds i = some d ∧ Q d M
  | .ref a => (∃ ds d, M a = some (.lst ds) ∧ atI ds i = some d ∧ Q d M) ∨ (∃ ds d, M a = some (.ro ds) ∧ atI ds i = some d ∧ Q d M)
  | _ => False
theorem atI_is {H : Hp} {ds : List D} {vs : List V} {i : Int} {d : D} (h : IsL H ds vs) (e : atI ds i = some d) : ∃ v, atI vs i = some v ∧ Is H d v := by
  obtain ⟨j, _, h2, _⟩ := atI_get e
  unfold atI at e ⊢
  rw [← h.len]
  cases q : ixN ds.length i with
  | none => rw [q] at e; cases e
  | some k =>
    rw [q] at e
    exact h.get (i := k) e
theorem rd_ix {da : D} {i : Int} (h : IxD da i M Q) : RD X.K (rIx X.K) da (.int i) M Q := by
  intro H x y kf hx hy m
  rw [is_int] at hy; subst hy
  cases da with
  | tup ds =>
    rw [is_tup] at hx
    obtain ⟨a, xs, rfl, h1, h2⟩ := hx
    obtain ⟨d, e, q⟩ := h
    obtain ⟨v, e2, h3⟩ := atI_is h2 e
    exact .inr (.inl ⟨a, xs, i, v, rfl, rfl, SqT.of h1, e2, fun _ => ⟨Grow.refl _, d, M, h3, m, q⟩⟩)
  | ref a =>
    rw [is_ref] at hx; subst hx
    rcases h with ⟨ds, d, h1, e, q⟩ | ⟨ds, d, h1, e, q⟩
    · obtain ⟨xs, h2, h3⟩ := m a _ h1
      obtain ⟨v, e2, h4⟩ := atI_is h3 e
      exact .inl ⟨a, xs, i, v, rfl, rfl, SqL.of h2, e2, fun _ => ⟨Grow.refl _, d, M, h4, m, q⟩⟩
    · obtain ⟨xs, h2, h3⟩ := m a _ h1
      obtain ⟨v, e2, h4⟩ := atI_is h3 e
      exact .inl ⟨a, xs, i, v, rfl, rfl, h2, e2, fun _ => ⟨Grow.refl _, d, M, h4, m, q⟩⟩
  | non => exact h.elim
  | bl _ => exact h.elim
  | int _ => exact h.elim
  | str _ => exact h.elim
  | ty _ => exact h.elim
end
end D3

set_option Elab.async false
set_option linter.all false
set_option maxRecDepth 100000
set_option maxHeartbeats 4000000
namespace D3
open PySem PySem.Spec PyProof.Rows L2

section
variable {X : Cx} {G : Ga} {M : MH} {a b c e : Expr} {es rest : List Expr} {pos : Pos} {Q : DK}

/-! ### slices -/
def OV (X : Cx) (G : Ga) (M : MH) (e : Option Expr) (Q : Option Int → MH → Prop) : Prop :=
  ∀ (pins : List (Addr × Obj)) (s : Shared) (σ : St) (H : Hp), Inv X pins σ H s → Rel X G M σ H →
    wpAny (model X.prog X.w) X.A (evalPart e X.env) (fun u s' => ∃ o H' M', Inv X pins σ H' s' ∧ Grow H H' ∧ IsPart u o ∧ Rel X G M' σ H' ∧ Q o M') X.xe s
theorem ov_some {Qo : Option Int → MH → Prop} (h : EV X G M e fun d M1 => ∃ i, d = .int i ∧ Qo (some i) M1) : OV X G M (some e) Qo := by
  intro pins s σ H I R
  rw [evalPart_some]
  refine thn (h pins s σ H I R) fun u s1 ⟨x, H1, d, M1, I1, r1, g1, i1, R1, i, e, q⟩ => ?_
  subst e
  rw [is_int] at i1; subst i1
  obtain ⟨t, rfl⟩ := r1
  exact ⟨some i, H1, M1, I1, g1, .int i t, R1, q⟩
def cutD (xs : List D) (lo hi : Option Int) : List D := (xs.drop (HT.sIx xs.length 0 lo)).take (HT.sIx xs.length xs.length hi - HT.sIx xs.length 0 lo)
theorem IsL.cut {H : Hp} {ds : List D} {vs : List V} (h : IsL H ds vs) (lo hi : Option Int) : IsL H (cutD ds lo hi) (cutV vs lo hi) := by
  unfold cutD cutV
  rw [h.len]
  exact (h.drop _).take _
def RS (K : PySem.W.Frag) (r : V → Option Int → Option Int → Hp → VK → Prop) (da : D) (lo hi : Option Int) (M : MH) (Q : DK) : Prop := ∀ H x, KF K H → Is H da x → MemOk K M H → r x lo hi H (RDP K H Q)
theorem ev_slice {r : V → Option Int → Option Int → Hp → VK → Prop} {lo hi : Option Expr} {p2 : Pos} (hr : SlR X r) (h : EV X G M e fun d M1 => OV X G M1 lo fun l M2 => OV X G M2 hi fun u M3 => RS X.K r d l u M3 Q) :
    EV X G M (.Subscript e (.Slice lo hi none p2) pos) Q := by
  intro pins s σ H I R
  refine Subscript_ (thn (h pins s σ H I R) fun v s1 ⟨x, H1, d, M1, I1, r1, g1, i1, R1, q1⟩ => ?_)
  refine wpAny_Slice (thn (q1 pins s1 σ H1 I1 R1) fun vl s2 ⟨l, H2, M2, I2, g2, pl, R2, q2⟩ => thn (q2 pins s2 σ H2 I2 R2) fun vu s3 ⟨u, H3, M3, I3, g3, pu, R3, q3⟩ => ?_)
  rw [evalPart_none]
  refine wpAny_pure ?_
  have I4 : Inv X pins σ H3 { s3 with heap := s3.heap.push { cls := .type "slice", data := .fields #[vl, vu, .none] } } := I3.kept (t' := s3.toks) fun b ob q => Heap.get?_push_of_some _ q
  obtain ⟨T, id, hT, ht, hg⟩ := hr pins { s3 with heap := s3.heap.push { cls := .type "slice", data := .fields #[vl, vu, .none] } } σ H3 x v vl vu l u s3.heap.objs.size _ I4 r1 (Heap.IsSliceOf.new ..) pl pu (q3 H3 x (kf_of I3) (Is.grow (g2.trans g3) _ _ i1) R3.mem)
  show wpAny (model X.prog X.w) X.A (subscriptTail e (.Slice lo hi none p2) v (.ref s3.heap.objs.size)) _ X.xe { s3 with heap := s3.heap.push { cls := .type "slice", data := .fields #[vl, vu, .none] } }
  exact tail_any (ops := [.ref s3.heap.objs.size, v]) ht hT (thn hg fun w s5 h5 => rd_fin ((g1.trans g2).trans g3) R3 h5) (by with_unfolding_all rfl)
/-- xs[lo:hi] of a list: a new list -/
theorem rs_list {da : D} {lo hi : Option Int} {l : Addr} {ds : List D} (e : da = .ref l) (hl : M l = some (.lst ds) ∨ M l = some (.ro ds)) (h : ∀ p, M p = none → Q (.ref p) (mset M p (.lst (cutD ds lo hi)))) : RS X.K (rSlL X.K) da lo hi M Q := by
  intro H x kf hx m
  subst e
  rw [is_ref] at hx; subst hx
  have hq : ∃ xs, SqL X.K H l xs ∧ IsL H ds xs := by
    rcases hl with hl | hl
    · obtain ⟨xs, h1, h2⟩ := m l _ hl; exact ⟨xs, SqL.of h1, h2⟩
    · exact m l _ hl
  obtain ⟨xs, h1, h2⟩ := hq
  refine ⟨l, xs, rfl, h1, fun p hp kf' => ⟨grow_new hp, .ref p, mset M p (.lst (cutD ds lo hi)), is_ref.mpr rfl, m.lay hp ⟨_, upd_same, (h2.cut lo hi).grow (grow_new hp)⟩, h p (m.fresh hp kf')⟩⟩

/-! ### ints -/
theorem rd_I {C : Int → Int → Prop} {g : Int → Int → Int} {i j : Int} (c : C i j) (q : Q (.int (g i j)) M) : RD X.K (rI C fun i j => .int (g i j)) (.int i) (.int j) M Q := by
  intro H x y kf hx hy m
  rw [is_int] at hx hy; subst hx; subst hy
  exact ⟨i, j, rfl, rfl, c, fun _ => ⟨Grow.refl _, _, M, is_int.mpr rfl, m, q⟩⟩
theorem rd_I0 {g : Int → Int → Int} {i j : Int} (q : Q (.int (g i j)) M) : RD X.K (rI0 fun i j => .int (g i j)) (.int i) (.int j) M Q := by
  intro H x y kf hx hy m
  rw [is_int] at hx hy; subst hx; subst hy
  exact ⟨i, j, rfl, rfl, fun _ => ⟨Grow.refl _, _, M, is_int.mpr rfl, m, q⟩⟩
theorem rd_B0 {g : Int → Int → Bool} {i j : Int} (q : Q (.bl (g i j)) M) : RD X.K (rI0 fun i j => .bl (g i j)) (.int i) (.int j) M Q := by
  intro H x y kf hx hy m
  rw [is_int] at hx hy; subst hx; subst hy
  exact ⟨i, j, rfl, rfl, fun _ => ⟨Grow.refl _, _, M, is_bl.mpr rfl, m, q⟩⟩
/-- products, quotients without a narrow bound -/
theorem op_mulB : OpR X (binaryOp .Mult) (rI IntMulOk fun i j => .int (i * j)) := opI fun _ _ _ _ _ _ _ hc q => mul_int q hc
def CDivB (i j : Int) : Prop := j ≠ 0 ∧ j.natAbs.log2 < 9000
theorem op_fdivB : OpR X (binaryOp .FloorDiv) (rI CDivB fun i j => .int (i.fdiv j)) := opI fun _ _ _ _ _ _ _ hc q => floordiv_int hc.1 q (.inl (PyProof.noPylong_of_log2 hc.2))
/-- a + b by what the two are -/
def AddD (da db : D) (M : MH) (Q : DK) : Prop := match da, db with
  | .int i, .int j => Q (.int (i + j)) M
  | .tup xs, .tup ys => xs ≠ [] ∧ xs.length + ys.length ≤ sizeLine ∧ Q (.tup (xs ++ ys)) M
  | .str x, .str y => x.length + y.length ≤ sizeLine ∧ Q (.str (x ++ y)) M
  | .ref l, .ref k => ∃ xs ys, M l = some (.lst xs) ∧ M k = some (.lst ys) ∧ xs.length + ys.length ≤ sizeLine ∧ ∀ p, M p = none → Q (.ref p) (mset M p (.lst (xs ++ ys)))
  | _, _ => False
theorem op_addAll : OpR X (binaryOp .Add) (fun x y H Q => rI0 (fun i j => .int (i + j)) x y H Q ∨ (rCatT X.K x y H Q ∨ ((∃ i j, x = .str i ∧ y = .str j ∧ i.length + j.length ≤ sizeLine ∧ Q (.str (i ++ j)) H) ∨ rCat x y H Q))) :=
  op_add.or (op_catT.or (op_add_str.or op_cat))
theorem rd_add {da db : D} (h : AddD da db M Q) : RD X.K (fun x y H Q => rI0 (fun i j => .int (i + j)) x y H Q ∨ (rCatT X.K x y H Q ∨ ((∃ i j, x = .str i ∧ y = .str j ∧ i.length + j.length ≤ sizeLine ∧ Q (.str (i ++ j)) H) ∨ rCat x y H Q))) da db M Q := by
  intro H x y kf hx hy m
  unfold AddD at h
  split at h
  · rw [is_int] at hx hy; subst hx; subst hy
    exact .inl ⟨_, _, rfl, rfl, fun _ => ⟨Grow.refl _, _, M, is_int.mpr rfl, m, h⟩⟩
  · rename_i xs ys
    obtain ⟨h0, h1, q⟩ := h
    rw [is_tup] at hx hy
    obtain ⟨l, us, rfl, hl, hu⟩ := hx
    obtain ⟨k, ws, rfl, hk, hw⟩ := hy
    refine .inr (.inl ⟨l, k, us, ws, rfl, rfl, SqT.of hl, SqT.of hk, ?_, by rw [← hu.len, ← hw.len]; exact h1, ?_, ?_⟩)
    · intro z; subst z
      have := hu.len
      exact h0 (List.eq_nil_of_length_eq_zero (by simpa using this))
    · intro z _
      subst z
      have hy : ys = [] := List.eq_nil_of_length_eq_zero (by simpa using hw.len)
      subst hy
      rw [List.append_nil] at q
      exact ⟨Grow.refl _, _, M, is_tup.mpr ⟨l, us, rfl, hl, hu⟩, m, q⟩
    · intro _ p hp _
      exact ⟨grow_new hp, _, M, is_tup.mpr ⟨p, _, rfl, upd_same, (hu.app hw).grow (grow_new hp)⟩, m.new hp, q⟩
  · rw [is_str] at hx hy; subst hx; subst hy
    exact .inr (.inr (.inl ⟨_, _, rfl, rfl, h.1, fun _ => ⟨Grow.refl _, _, M, is_str.mpr rfl, m, h.2⟩⟩))
  · rw [is_ref] at hx hy; subst hx; subst hy
    obtain ⟨xs, ys, h1, h2, h3, q⟩ := h
    obtain ⟨us, e1, i1⟩ := m _ _ h1
    obtain ⟨ws, e2, i2⟩ := m _ _ h2
    refine .inr (.inr (.inr ⟨_, _, us, ws, rfl, rfl, e1, e2, by rw [← i1.len, ← i2.len]; exact h3, fun p hp kf' => ⟨grow_new hp, .ref p, mset M p (.lst (xs ++ ys)), is_ref.mpr rfl, m.lay hp ⟨_, upd_same, (i1.app i2).grow (grow_new hp)⟩, q p (m.fresh hp kf')⟩⟩))
  · exact h.elim
theorem ev_add (h : EV X G M a fun da Ma => EV X G Ma b fun db Mb => AddD da db Mb Q) : EV X G M (.BinOp a .Add b pos) Q := ev_op op_addAll (h.mono fun _ _ h1 => h1.mono fun _ _ h2 => rd_add h2)
theorem ev_sub (h : EV X G M a fun da Ma => EV X G Ma b fun db Mb => ∃ i j, da = .int i ∧ db = .int j ∧ Q (.int (i - j)) Mb) : EV X G M (.BinOp a .Sub b pos) Q :=
  ev_op op_sub (h.mono fun _ _ h1 => h1.mono fun _ _ ⟨i, j, e1, e2, q⟩ => by subst e1; subst e2; exact rd_I0 (g := fun i j => i - j) q)
theorem ev_mul (h : EV X G M a fun da Ma => EV X G Ma b fun db Mb => ∃ i j, da = .int i ∧ db = .int j ∧ IntMulOk i j ∧ Q (.int (i * j)) Mb) : EV X G M (.BinOp a .Mult b pos) Q :=
  ev_op op_mulB (h.mono fun _ _ h1 => h1.mono fun _ _ ⟨i, j, e1, e2, z, q⟩ => by subst e1; subst e2; exact rd_I (C := IntMulOk) (g := fun i j => i * j) z q)
theorem ev_fdiv (h : EV X G M a fun da Ma => EV X G Ma b fun db Mb => ∃ i j, da = .int i ∧ db = .int j ∧ CDivB i j ∧ Q (.int (i.fdiv j)) Mb) : EV X G M (.BinOp a .FloorDiv b pos) Q :=
  ev_op op_fdivB (h.mono fun _ _ h1 => h1.mono fun _ _ ⟨i, j, e1, e2, z, q⟩ => by subst e1; subst e2; exact rd_I (C := CDivB) (g := fun i j => i.fdiv j) z q)
theorem ev_mod (h : EV X G M a fun da Ma => EV X G Ma b fun db Mb => ∃ i j, da = .int i ∧ db = .int j ∧ j ≠ 0 ∧ Q (.int (i.fmod j)) Mb) : EV X G M (.BinOp a .Mod b pos) Q :=
  ev_op op_modN (h.mono fun _ _ h1 => h1.mono fun _ _ ⟨i, j, e1, e2, z, q⟩ => by subst e1; subst e2; exact rd_I (C := fun _ j => j ≠ 0) (g := fun i j => i.fmod j) z q)
theorem ev_pow (h : EV X G M a fun da Ma => EV X G Ma b fun db Mb => ∃ i j, da = .int i ∧ db = .int j ∧ CPow i j ∧ Q (.int (i ^ j.toNat)) Mb) : EV X G M (.BinOp a .Pow b pos) Q :=
  ev_op op_pow (h.mono fun _ _ h1 => h1.mono fun _ _ ⟨i, j, e1, e2, z, q⟩ => by subst e1; subst e2; exact rd_I (C := CPow) (g := fun i j => i ^ j.toNat) z q)
theorem ev_neg (h : EV X G M a fun da Ma => ∃ i, da = .int i ∧ Q (.int (-i)) Ma) : EV X G M (.UnaryOp .USub a pos) Q :=
  ev_un un_neg (h.mono fun _ Ma ⟨i, e1, q⟩ => by
    subst e1
    intro H x kf hx m
    rw [is_int] at hx; subst hx
    exact ⟨i, rfl, fun _ => ⟨Grow.refl _, _, Ma, is_int.mpr rfl, m, q⟩⟩)
/-! comparisons of ints; == and != of flat values -/
theorem ev_lt (h : EV X G M a fun da Ma => EV X G Ma b fun db Mb => ∃ i j, da = .int i ∧ db = .int j ∧ Q (.bl (decide (i < j))) Mb) : EV X G M (.Compare a [.Lt] [b] pos) Q :=
  ev_cmp op_lt (nomark _) (h.mono fun _ _ h1 => h1.mono fun _ _ ⟨i, j, e1, e2, q⟩ => by subst e1; subst e2; exact rd_B0 (g := fun i j => decide (i < j)) q)
theorem ev_le (h : EV X G M a fun da Ma => EV X G Ma b fun db Mb => ∃ i j, da = .int i ∧ db = .int j ∧ Q (.bl (decide (i ≤ j))) Mb) : EV X G M (.Compare a [.LtE] [b] pos) Q :=
  ev_cmp op_le (nomark _) (h.mono fun _ _ h1 => h1.mono fun _ _ ⟨i, j, e1, e2, q⟩ => by subst e1; subst e2; exact rd_B0 (g := fun i j => decide (i ≤ j)) q)
theorem ev_gt (h : EV X G M a fun da Ma => EV X G Ma b fun db Mb => ∃ i j, da = .int i ∧ db = .int j ∧ Q (.bl (decide (j < i))) Mb) : EV X G M (.Compare a [.Gt] [b] pos) Q :=
  ev_cmp op_gt (nomark _) (h.mono fun _ _ h1 => h1.mono fun _ _ ⟨i, j, e1, e2, q⟩ => by subst e1; subst e2; exact rd_B0 (g := fun i j => decide (j < i)) q)
theorem ev_ge (h : EV X G M a fun da Ma => EV X G Ma b fun db Mb => ∃ i j, da = .int i ∧ db = .int j ∧ Q (.bl (decide (j ≤ i))) Mb) : EV X G M (.Compare a [.GtE] [b] pos) Q :=
  ev_cmp op_ge (nomark _) (h.mono fun _ _ h1 => h1.mono fun _ _ ⟨i, j, e1, e2, q⟩ => by subst e1; subst e2; exact rd_B0 (g := fun i j => decide (j ≤ i)) q)
/-- flat values that == tells apart -/
def EqD (da db : D) (k : Bool) : Prop := match da, db with
  | .int i, .int j => k = decide (i = j)
  | .bl i, .bl j => k = decide (i = j)
  | .str i, .str j => k = decide (i = j)
  | _, _ => False
theorem eqD_val {H : Hp} {da db : D} {k : Bool} {x y : V} (h : EqD da db k) (hx : Is H da x) (hy : Is H db y) : scal x y = true ∧ k = decide (x = y) := by
  unfold EqD at h
  split at h
  · rw [is_int] at hx hy; subst hx; subst hy; subst h
    exact ⟨rfl, by simp⟩
  · rw [is_bl] at hx hy; subst hx; subst hy; subst h
    exact ⟨rfl, by simp⟩
  · rw [is_str] at hx hy; subst hx; subst hy; subst h
    exact ⟨rfl, by simp⟩
  · exact h.elim
theorem tv_lt {Qb : Bool → MH → Prop} (h : EV X G M a fun da Ma => EV X G Ma b fun db Mb => ∃ i j, da = .int i ∧ db = .int j ∧ Qb (decide (i < j)) Mb) : TV X G M (.Compare a [.Lt] [b] pos) Qb :=
  tv_cmp op_lt (nomark _) (h.mono fun _ _ h1 => h1.mono fun _ _ ⟨i, j, e1, e2, q⟩ => by subst e1; subst e2; exact rd_B0 (g := fun i j => decide (i < j)) ⟨_, rfl, q⟩)
theorem tv_le {Qb : Bool → MH → Prop} (h : EV X G M a fun da Ma => EV X G Ma b fun db Mb => ∃ i j, da = .int i ∧ db = .int j ∧ Qb (decide (i ≤ j)) Mb) : TV X G M (.Compare a [.LtE] [b] pos) Qb :=
  tv_cmp op_le (nomark _) (h.mono fun _ _ h1 => h1.mono fun _ _ ⟨i, j, e1, e2, q⟩ => by subst e1; subst e2; exact rd_B0 (g := fun i j => decide (i ≤ j)) ⟨_, rfl, q⟩)
theorem tv_gt {Qb : Bool → MH → Prop} (h : EV X G M a fun da Ma => EV X G Ma b fun db Mb => ∃ i j, da = .int i ∧ db = .int j ∧ Qb (decide (j < i)) Mb) : TV X G M (.Compare a [.Gt] [b] pos) Qb :=
  tv_cmp op_gt (nomark _) (h.mono fun _ _ h1 => h1.mono fun _ _ ⟨i, j, e1, e2, q⟩ => by subst e1; subst e2; exact rd_B0 (g := fun i j => decide (j < i)) ⟨_, rfl, q⟩)
theorem tv_ge {Qb : Bool → MH → Prop} (h : EV X G M a fun da Ma => EV X G Ma b fun db Mb => ∃ i j, da = .int i ∧ db = .int j ∧ Qb (decide (j ≤ i)) Mb) : TV X G M (.Compare a [.GtE] [b] pos) Qb :=
  tv_cmp op_ge (nomark _) (h.mono fun _ _ h1 => h1.mono fun _ _ ⟨i, j, e1, e2, q⟩ => by subst e1; subst e2; exact rd_B0 (g := fun i j => decide (j ≤ i)) ⟨_, rfl, q⟩)
/-! ### calls of built-ins -/
theorem ev_callB {x : Str} {p : Pos} {id : String} {r : List V → Hp → VK → Prop} (hc : CallR X (.builtin id) r) (hm : X.mg x = none) (hv : bootBuiltins x = some (.builtin id)) (h : AV X G M (e :: es) fun ds M1 => RC X.K r ds M1 Q) (hg : Gl X x := by rfl)
    (hn : x ≠ "__name__" := by decide) (hdb : (x == ("__debug__" : Str)) = false := by decide) (he : starEach (e :: es) X.env = (false, eval e X.env) :: starEach es X.env := by rfl) (hpl : (backTo pos (starEach es X.env)).any (·.1) = false := by rfl) :
    EV X G M (.Call (.Name x p) (e :: es) [] pos) Q := by
  intro pins s σ H I R
  refine wpAny_Call_Name_kw (ld_blt I hg hm hv ?_ hn hdb)
  exact PyProof.Rows.callWith_builtin1 (thn (h pos pins s σ H I R) fun us s1 ⟨vs, H1, ds, M1, I1, r1, g1, i1, R1, q1⟩ =>
    thn (hc pins s1 σ H1 vs us _ I1 r1 (q1 H1 vs (kf_of I1) i1 R1.mem)) fun w s2 h2 => rd_fin g1 R1 h2) he hpl
theorem ev_callTy {x : Str} {p : Pos} {T : String} {r : List V → Hp → VK → Prop} (hc : CallR X (.type T) r) (hm : X.mg x = none) (hv : bootBuiltins x = some (.type T)) (h : AV X G M (e :: es) fun ds M1 => RC X.K r ds M1 Q) (hg : Gl X x := by rfl)
    (hn : x ≠ "__name__" := by decide) (hdb : (x == ("__debug__" : Str)) = false := by decide) (he : starEach (e :: es) X.env = (false, eval e X.env) :: starEach es X.env := by rfl) (hpl : (backTo pos (starEach es X.env)).any (·.1) = false := by rfl) :
    EV X G M (.Call (.Name x p) (e :: es) [] pos) Q := by
  intro pins s σ H I R
  refine wpAny_Call_Name_kw (ld_blt I hg hm hv ?_ hn hdb)
  exact PyProof.Rows.callWith_type1 (thn (h pos pins s σ H I R) fun us s1 ⟨vs, H1, ds, M1, I1, r1, g1, i1, R1, q1⟩ =>
    thn (hc pins s1 σ H1 vs us _ I1 r1 (q1 H1 vs (kf_of I1) i1 R1.mem)) fun w s2 h2 => rd_fin g1 R1 h2) he hpl
theorem isl1 {H : Hp} {d : D} {vs : List V} (h : IsL H [d] vs) : ∃ v, vs = [v] ∧ Is H d v := by
  rw [isl_cons] at h
  obtain ⟨x, r, e, h1, h2⟩ := h
  rw [isl_nil] at h2; subst h2
  exact ⟨x, e, h1⟩
theorem isl2 {H : Hp} {d d' : D} {vs : List V} (h : IsL H [d, d'] vs) : ∃ v v', vs = [v, v'] ∧ Is H d v ∧ Is H d' v' := by
  rw [isl_cons] at h
  obtain ⟨x, r, e, h1, h2⟩ := h
  obtain ⟨y, rfl, h3⟩ := isl1 h2
  exact ⟨x, y, e, h1, h3⟩
theorem AV.mono {Qa Qb : List D → MH → Prop} (h : AV X G M es Qa) (k : ∀ ds M', Qa ds M' → Qb ds M') : AV X G M es Qb := fun pos pins s σ H I R =>
  thn (h pos pins s σ H I R) fun us s1 ⟨vs, H1, ds, M1, I1, r1, g1, i1, R1, q1⟩ => ⟨vs, H1, ds, M1, I1, r1, g1, i1, R1, k _ _ q1⟩
theorem bootAbs : bootBuiltins "abs" = some (.builtin "abs") := by decide +kernel
theorem bootMax : bootBuiltins "max" = some (.builtin "max") := by decide +kernel
theorem bootMin : bootBuiltins "min" = some (.builtin "min") := by decide +kernel
theorem bootLen : bootBuiltins "len" = some (.builtin "len") := by decide +kernel
theorem bootIsi : bootBuiltins "isinstance" = some (.builtin "isinstance") := by decide +kernel
theorem bootTuple : bootBuiltins "tuple" = some (.type "tuple") := by decide +kernel
theorem bootInt : bootBuiltins "int" = some (.type "int") := by decide +kernel
theorem bootBool : bootBuiltins "bool" = some (.type "bool") := by decide +kernel
theorem ev_abs {p : Pos} (hm : X.mg "abs" = none) (h : AV X G M [e] fun ds M1 => ∃ i : Int, ds = [.int i] ∧ Q (.int (if i < 0 then -i else i)) M1) (hg : Gl X "abs" := by rfl) (he : starEach [e] X.env = (false, eval e X.env) :: starEach [] X.env := by rfl) (hpl : (backTo pos (starEach ([] : List Expr) X.env)).any (·.1) = false := by rfl) : EV X G M (.Call (.Name "abs" p) [e] [] pos) Q :=
  ev_callB call_abs hm bootAbs (h.mono fun ds M1 ⟨i, e1, q⟩ => fun H xs kf hx m => by
    subst e1
    obtain ⟨v, rfl, hv⟩ := isl1 hx
    rw [is_int] at hv; subst hv
    exact ⟨i, rfl, fun _ => ⟨Grow.refl _, _, M1, is_int.mpr rfl, m, q⟩⟩) hg (by decide) (by decide) he hpl
theorem ev_max2 {p : Pos} {e2 : Expr} (hm : X.mg "max" = none) (hc : X.calm = true) (h : AV X G M [e, e2] fun ds M1 => ∃ i j : Int, ds = [.int i, .int j] ∧ Q (.int (if j > i then j else i)) M1) (hg : Gl X "max" := by rfl) (he : starEach [e, e2] X.env = (false, eval e X.env) :: starEach [e2] X.env := by rfl) (hpl : (backTo pos (starEach [e2] X.env)).any (·.1) = false := by rfl) : EV X G M (.Call (.Name "max" p) [e, e2] [] pos) Q :=
  ev_callB (call_max2 hc) hm bootMax (h.mono fun ds M1 ⟨i, j, e1, q⟩ => fun H xs kf hx m => by
    subst e1
    obtain ⟨v, w, rfl, hv, hw⟩ := isl2 hx
    rw [is_int] at hv hw; subst hv; subst hw
    exact ⟨i, j, rfl, fun _ => ⟨Grow.refl _, _, M1, is_int.mpr rfl, m, q⟩⟩) hg (by decide) (by decide) he hpl
theorem ev_min2 {p : Pos} {e2 : Expr} (hm : X.mg "min" = none) (hc : X.calm = true) (h : AV X G M [e, e2] fun ds M1 => ∃ i j : Int, ds = [.int i, .int j] ∧ Q (.int (if j < i then j else i)) M1) (hg : Gl X "min" := by rfl) (he : starEach [e, e2] X.env = (false, eval e X.env) :: starEach [e2] X.env := by rfl) (hpl : (backTo pos (starEach [e2] X.env)).any (·.1) = false := by rfl) : EV X G M (.Call (.Name "min" p) [e, e2] [] pos) Q :=
  ev_callB (call_min2 hc) hm bootMin (h.mono fun ds M1 ⟨i, j, e1, q⟩ => fun H xs kf hx m => by
    subst e1
    obtain ⟨v, w, rfl, hv, hw⟩ := isl2 hx
    rw [is_int] at hv hw; subst hv; subst hw
    exact ⟨i, j, rfl, fun _ => ⟨Grow.refl _, _, M1, is_int.mpr rfl, m, q⟩⟩) hg (by decide) (by decide) he hpl
/-- the length of a tuple or a list -/
def LenD (d : D) (M : MH) (n : Nat) : Prop := match d with
  | .tup ds => n = ds.length
  | .ref a => (∃ ds, M a = some (.lst ds) ∧ n = ds.length) ∨ (∃ ds, M a = some (.ro ds) ∧ n = ds.length)
  | _ => False
theorem ev_len {p : Pos} (hm : X.mg "len" = none) (h : AV X G M [e] fun ds M1 => ∃ d n, ds = [d] ∧ LenD d M1 n ∧ Q (.int (n : Nat)) M1) (hg : Gl X "len" := by rfl) (he : starEach [e] X.env = (false, eval e X.env) :: starEach [] X.env := by rfl) (hpl : (backTo pos (starEach ([] : List Expr) X.env)).any (·.1) = false := by rfl) : EV X G M (.Call (.Name "len" p) [e] [] pos) Q :=
  ev_callB call_len_seq hm bootLen (h.mono fun ds M1 ⟨d, n, e1, hl, q⟩ => fun H xs kf hx m => by
    subst e1
    obtain ⟨v, rfl, hv⟩ := isl1 hx
    cases d with
    | tup ds =>
      rw [is_tup] at hv
      obtain ⟨a, ys, rfl, h1, h2⟩ := hv
      have e2 : n = ds.length := hl
      exact ⟨a, ys, rfl, .inr (SqT.of h1), fun _ => ⟨Grow.refl _, .int n, M1, is_int.mpr (by rw [e2, h2.len]), m, q⟩⟩
    | ref a =>
      rw [is_ref] at hv; subst hv
      rcases hl with ⟨ds, h1, e2⟩ | ⟨ds, h1, e2⟩
      · obtain ⟨ys, h3, h4⟩ := m a _ h1
        exact ⟨a, ys, rfl, .inl (SqL.of h3), fun _ => ⟨Grow.refl _, .int n, M1, is_int.mpr (by rw [e2, h4.len]), m, q⟩⟩
      · obtain ⟨ys, h3, h4⟩ := m a _ h1
        exact ⟨a, ys, rfl, .inl h3, fun _ => ⟨Grow.refl _, .int n, M1, is_int.mpr (by rw [e2, h4.len]), m, q⟩⟩
    | non => exact hl.elim
    | bl _ => exact hl.elim
    | int _ => exact hl.elim
    | str _ => exact hl.elim
    | ty _ => exact hl.elim) hg (by decide) (by decide) he hpl
/-- isinstance(x, T) of data -/
def tyName (d : D) (M : MH) (t : String) : Prop := match d with
  | .non => t = "NoneType"
  | .bl _ => t = "bool"
  | .int _ => t = "int"
  | .str _ => t = "str"
  | .tup _ => t = "tuple"
  | .ref a => (∃ ds, M a = some (.lst ds)) ∧ t = "list"
  | .ty _ => False
theorem call_isinst : CallR X (.builtin "isinstance") (fun xs H Q => ∃ x t c b, xs = [x, .ty c] ∧ TyOf X.K H x t ∧ PySem.W.kitOne X.K t (.type c) = some b ∧ Q (.bl b) H) := by
  intro pins s σ H xs us Q I r h
  obtain ⟨x, t, c, b, rfl, ty, e, q⟩ := h
  obtain ⟨u, w', rfl, ru, rw'⟩ := vals2 r
  cases rw'
  exact isinst_ok I ru ty e (fun tk => ⟨.bl b, H, I.tok tk, rfl, q⟩)
theorem tyOf_of {K : PySem.W.Frag} {H : Hp} {d : D} {M : MH} {v : V} {t : String} (m : MemOk K M H) (i : Is H d v) (h : tyName d M t) : TyOf K H v (.type t) := by
  cases d with
  | non => rw [is_non] at i; subst i; cases (show t = _ from h); exact .non
  | bl b => rw [is_bl] at i; subst i; cases (show t = _ from h); exact .bl _
  | int b => rw [is_int] at i; subst i; cases (show t = _ from h); exact .int _
  | str b => rw [is_str] at i; subst i; cases (show t = _ from h); exact .str _
  | tup ds =>
    rw [is_tup] at i
    obtain ⟨a, xs, rfl, h1, h2⟩ := i
    cases (show t = _ from h)
    exact .tup h1
  | ref a =>
    rw [is_ref] at i; subst i
    obtain ⟨⟨ds, h1⟩, rfl⟩ := h
    obtain ⟨xs, h2, _⟩ := m a _ h1
    exact .lst h2
  | ty _ => exact h.elim
theorem ev_isi {p : Pos} {e2 : Expr} (hm : X.mg "isinstance" = none) (h : AV X G M [e, e2] fun ds M1 => ∃ d t c b, ds = [d, .ty c] ∧ tyName d M1 t ∧ PySem.W.kitOne X.K (.type t) (.type c) = some b ∧ Q (.bl b) M1) (hg : Gl X "isinstance" := by rfl) (he : starEach [e, e2] X.env = (false, eval e X.env) :: starEach [e2] X.env := by rfl) (hpl : (backTo pos (starEach [e2] X.env)).any (·.1) = false := by rfl) :
    EV X G M (.Call (.Name "isinstance" p) [e, e2] [] pos) Q :=
  ev_callB call_isinst hm bootIsi (h.mono fun ds M1 ⟨d, t, c, b, e1, ht, hk, q⟩ => fun H xs kf hx m => by
    subst e1
    obtain ⟨v, w, rfl, hv, hw⟩ := isl2 hx
    rw [is_ty] at hw; subst hw
    exact ⟨v, .type t, c, b, rfl, tyOf_of m hv ht, hk, fun _ => ⟨Grow.refl _, .bl b, M1, is_bl.mpr rfl, m, q⟩⟩) hg (by decide) (by decide) he hpl
/-- n.bit_length() -/
theorem mt_bits : MtR X "int.bit_length" (fun x xs H Q => ∃ i, x = .int i ∧ xs = [] ∧ Q (.int (Builtin.Int.intBits i : Nat)) H) := by
  intro pins s σ H x xs v us Q I rx rv h
  obtain ⟨i, rfl, rfl, q⟩ := h
  obtain ⟨t, rfl⟩ := rx
  cases rv
  exact call_int_bit_length ⟨.int _, H, I.tok _, ⟨_, rfl⟩, q⟩
theorem ev_bits {apos cpos : Pos} (pa : PlainAttrs "int") (h : EV X G M e fun d M1 => ∃ i, d = .int i ∧ Q (.int (Builtin.Int.intBits i : Nat)) M1) (hbase : attributeBase e "bit_length" X.env (eval e X.env) = eval e X.env := by rfl) (hline : (apos.endLine == cpos.line) = true := by rfl) :
    EV X G M (.Call (.Attribute e "bit_length" apos) [] [] cpos) Q := by
  intro pins s σ H I R
  refine wpAny_Call_method0_late hbase hline (thn (h pins s σ H I R) fun v s1 ⟨x, H1, d, M1, I1, r1, g1, i1, R1, i, e1, q1⟩ => ?_)
  subst e1
  rw [is_int] at i1; subst i1
  obtain ⟨h1, h2⟩ := tyV_is (T := "int") I1 r1 rfl
  refine ⟨"int", "int.bit_length", pa, slot_int_bit_length, type_int_bit_length, h1, h2, Calls.callWith_builtin rfl (PySem.evalArgs_none ?_)⟩
  exact thn (mt_bits pins s1 σ H1 (.int i) [] v [] (fun v H' => v = .int (Builtin.Int.intBits i : Nat) ∧ H' = H1) I1 r1 .nil ⟨i, rfl, rfl, rfl, rfl⟩) fun u s2 ⟨z, H2, I2, r2, e2, e3⟩ => by
    subst e2; subst e3
    exact ⟨_, H2, .int _, M1, I2, r2, g1, is_int.mpr rfl, R1, q1⟩
/-! is, is not: beside None, True, False -/
theorem op_isB : OpR X (compareOp .Is) (fun x y H Q => ∃ i j, x = .bl i ∧ y = .bl j ∧ Q (.bl (i == j)) H) := by
  intro pins s σ H x y v u Q I rx ry h
  obtain ⟨i, j, rfl, rfl, q⟩ := h
  cases rx
  cases ry
  exact is_bool ⟨.bl _, H, I, rfl, q⟩
def IsDv (da db : D) (k : Bool) : Prop := match da, db with
  | .bl i, .bl j => k = (i == j)
  | .non, .non => k = true
  | .bl _, .non => k = false
  | .int _, .non => k = false
  | .str _, .non => k = false
  | .tup _, .non => k = false
  | .ref _, .non => k = false
  | _, _ => False
theorem isD_val {H : Hp} {da db : D} {k : Bool} {x y : V} (h : IsDv da db k) (hx : Is H da x) (hy : Is H db y) : (∃ i j, x = .bl i ∧ y = .bl j ∧ k = (i == j)) ∨ (y = .non ∧ k = decide (x = .non)) := by
  unfold IsDv at h
  split at h
  · rw [is_bl] at hx hy; subst hx; subst hy; subst h; exact .inl ⟨_, _, rfl, rfl, rfl⟩
  · rw [is_non] at hx hy; subst hx; subst hy; subst h; exact .inr ⟨rfl, rfl⟩
  · rw [is_bl] at hx; rw [is_non] at hy; subst hx; subst hy; subst h; exact .inr ⟨rfl, by simp⟩
  · rw [is_int] at hx; rw [is_non] at hy; subst hx; subst hy; subst h; exact .inr ⟨rfl, by simp⟩
  · rw [is_str] at hx; rw [is_non] at hy; subst hx; subst hy; subst h; exact .inr ⟨rfl, by simp⟩
  · rw [is_tup] at hx; rw [is_non] at hy; obtain ⟨a, xs, rfl, _⟩ := hx; subst hy; subst h; exact .inr ⟨rfl, by simp⟩
  · rw [is_ref] at hx; rw [is_non] at hy; subst hx; subst hy; subst h; exact .inr ⟨rfl, by simp⟩
  · exact h.elim
theorem op_isAll : OpR X (compareOp .Is) (fun x y H Q => (∃ i j, x = .bl i ∧ y = .bl j ∧ Q (.bl (i == j)) H) ∨ (y = .non ∧ Q (.bl (decide (x = .non))) H)) := op_isB.or op_isN
theorem ev_is (h : EV X G M a fun da Ma => EV X G Ma b fun db Mb => ∃ k, IsDv da db k ∧ Q (.bl k) Mb) : EV X G M (.Compare a [.Is] [b] pos) Q :=
  ev_cmp op_isAll (nomark _) (h.mono fun _ _ h1 => h1.mono fun _ Mb ⟨k, e1, q⟩ => by
    intro H x y kf hx hy m
    rcases isD_val e1 hx hy with ⟨i, j, rfl, rfl, e⟩ | ⟨rfl, e⟩
    · exact .inl ⟨i, j, rfl, rfl, fun _ => ⟨Grow.refl _, .bl k, Mb, is_bl.mpr (by rw [e]), m, q⟩⟩
    · exact .inr ⟨rfl, fun _ => ⟨Grow.refl _, .bl k, Mb, is_bl.mpr (by rw [e]), m, q⟩⟩)
theorem tv_is {Qb : Bool → MH → Prop} (h : EV X G M a fun da Ma => EV X G Ma b fun db Mb => ∃ k, IsDv da db k ∧ Qb k Mb) : TV X G M (.Compare a [.Is] [b] pos) Qb :=
  tv_cmp op_isAll (nomark _) (h.mono fun _ _ h1 => h1.mono fun _ Mb ⟨k, e1, q⟩ => by
    intro H x y kf hx hy m
    rcases isD_val e1 hx hy with ⟨i, j, rfl, rfl, e⟩ | ⟨rfl, e⟩
    · exact .inl ⟨i, j, rfl, rfl, fun _ => ⟨Grow.refl _, .bl k, Mb, is_bl.mpr (by rw [e]), m, k, rfl, q⟩⟩
    · exact .inr ⟨rfl, fun _ => ⟨Grow.refl _, .bl k, Mb, is_bl.mpr (by rw [e]), m, k, rfl, q⟩⟩)
end
end D3

set_option Elab.async false
set_option linter.all false
set_option maxRecDepth 100000
set_option maxHeartbeats 4000000
namespace D3
open PySem PySem.Spec PyProof.Rows L2

/-! ### what a def promises, by data -/
abbrev SpD := List D → MH → DK → Prop
def liftSp (K : PySem.W.Frag) (sp : SpD) : Sp := fun vs H Q _ => ∃ ds M Qd, IsL H ds vs ∧ MemOk K M H ∧ sp ds M Qd ∧ ∀ v H' d M', Grow H H' → Is H' d v → MemOk K M' H' → Qd d M' → Q v H'
/-- a def that may be called by its name -/
structure Cal (P : Program) (w : World) (K : PySem.W.Frag) (mg : Str → Option Value) (base : Heap) (k : Nat) (x : Str) (sp : SpD) : Prop where
  ex : ∃ (f : Addr) (fd : FuncData) (ps : List Str), FnOk P w K mg base CX0 k f fd ps (liftSp K sp) ∧ mg x = some (.ref f) ∧ PySem.W.keepIn K (.ref f) = true ∧ Binds K fd ps []
section
variable {X : Cx} {G : Ga} {M : MH} {a b c e : Expr} {es rest : List Expr} {pos : Pos} {Q : DK}
theorem run_fnD {k : Nat} {f : Addr} {fd : FuncData} {ps : List Str} {sp : SpD} {pins : List (Addr × Obj)} {σ : St} {H0 H : Hp} {s : Shared} {us : List Value} {vs : List V} {ds : List D} (F : FnOk X.prog X.w X.K X.mg X.base CX0 k f fd ps (liftSp X.K sp)) (hr : Room k X.A) (hb : Binds X.K fd ps [])
    (I : Inv X pins σ H s) (R : Rel X G M σ H) (g0 : Grow H0 H) (r : Vals vs us) (i : IsL H ds vs) (h : sp ds M Q) : wpAny (model X.prog X.w) X.A (call (.ref f) us) (EPD X pins σ G H0 Q) X.xe s := by
  have h' : liftSp X.K sp (vs ++ []) H (fun v H' => ∃ d M', Grow H H' ∧ Is H' d v ∧ MemOk X.K M' H' ∧ Q d M') E0 :=
    ⟨ds, M, Q, by rw [List.append_nil]; exact i, R.mem, h, fun v H' d M' g i m q => ⟨d, M', g, i, m, q⟩⟩
  exact thn (run_fn (dvs := []) (ds := []) F hr hb .nil pass0 I r h') fun u s' ⟨v, H', I', r', d, M', g, i', m, q⟩ => ⟨v, H', d, M', I', r', g0.trans g, i', R.to g m, q⟩
theorem ev_call {k : Nat} {x : Str} {p : Pos} {sp : SpD} (C : Cal X.prog X.w X.K X.mg X.base k x sp) (hr : Room k X.A) (h : AV X G M (e :: es) fun ds M1 => sp ds M1 Q) (hg : Gl X x := by rfl) (hdb : (x == ("__debug__" : Str)) = false := by decide)
    (he : starEach (e :: es) X.env = (false, eval e X.env) :: starEach es X.env := by rfl) (hpl : (backTo pos (starEach es X.env)).any (·.1) = false := by rfl) : EV X G M (.Call (.Name x p) (e :: es) [] pos) Q := by
  intro pins s σ H I R
  obtain ⟨f, fd, ps, F, hm, hk, hb⟩ := C.ex
  refine wpAny_Call_Name_kw (ld_glob I hg hm ?_ hdb)
  refine PySem.W.callWith_K (h₀ := X.base) I.ok.mod.kin hk (thn (h pos pins s σ H I R) fun us s1 ⟨vs, H1, ds, M1, I1, r1, g1, i1, R1, q1⟩ => ⟨I1.kIn, ?_⟩) he hpl
  exact run_fnD F hr hb I1 R1 g1 r1 i1 q1

/-! ### statements -/
variable {st : Stmt} {sts : List Stmt} {E : EndsD}
theorem exs_nil (q : E.nx G M) : EXs X G M [] E := fun pins s σ H I R => wpAny_execs_nil ⟨σ, H, G, M, I, Grow.refl _, R, q⟩
theorem exs_cons (h : EX X G M st { E with nx := fun G' M' => EXs X G' M' sts E }) : EXs X G M (st :: sts) E := by
  intro pins s σ H I R
  refine wpAny_execs_cons (thn (h pins s σ H I R) fun f s1 q => ?_)
  cases f with
  | next =>
    obtain ⟨σ', H', G', M', I', g', R', q⟩ := q
    exact thn (q pins s1 σ' H' I' R') fun f s2 h2 => h2.grow g'
  | ret v => exact q
  | brk => exact q
  | cont => exact q
theorem exs_one (h : EX X G M st E) : EXs X G M [st] E := by
  intro pins s σ H I R
  refine wpAny_execs_cons (thn (h pins s σ H I R) fun f s1 q => ?_)
  cases f with
  | next => exact wpAny_execs_nil q
  | ret v => exact q
  | brk => exact q
  | cont => exact q
theorem ex_pass (q : E.nx G M) : EX X G M (.Pass pos) E := fun pins s σ H I R => wpAny_Pass ⟨σ, H, G, M, I, Grow.refl _, R, q⟩
theorem ex_ret (h : EV X G M e E.rt) : EX X G M (.Return (some e) pos) E := fun pins s σ H I R =>
  wpAny_Return_some (thn (h pins s σ H I R) fun v s1 ⟨x, H1, d, M1, I1, r1, g1, i1, R1, q1⟩ => ⟨x, σ, H1, d, M1, I1, r1, g1, i1, R1.mem, q1⟩)
theorem ex_retN (q : E.rt .non M) : EX X G M (.Return none pos) E := fun pins s σ H I R => wpAny_Return_none ⟨.non, σ, H, .non, M, I, rfl, Grow.refl _, is_non.mpr rfl, R.mem, q⟩
theorem ex_expr (h : EV X G M e fun _ M1 => E.nx G M1) (hs : swapsWith e none pos.line X.env = pure false := by rfl) : EX X G M (.Expr e pos) E := fun pins s σ H I R =>
  wpAny_Expr_any (thn (h pins s σ H I R) fun v s1 ⟨x, H1, d, M1, I1, r1, g1, i1, R1, q1⟩ => ⟨σ, H1, G, M1, I1, g1, R1, q1⟩) I.quiet hs
theorem ex_if {A B : List Stmt} (h : TV X G M c fun k M1 => if k = true then EXs X G M1 A E else EXs X G M1 B E) : EX X G M (.If c A B pos) E := by
  intro pins s σ H I R
  refine wpAny_If (thn (h pins s σ H I R) fun d s1 ⟨H1, M1, I1, g1, R1, q1⟩ => ?_)
  cases d with
  | true => exact thn (q1 pins s1 σ H1 I1 R1) fun f s2 h2 => h2.grow g1
  | false => exact thn (q1 pins s1 σ H1 I1 R1) fun f s2 h2 => h2.grow g1
/-- name = value -/
theorem ex_set (i : Nat) {x : Str} {pos' : Pos} (hN : X.N.Nodup) (h : EV X G M e fun d M1 => E.nx (G.set i (some d)) M1) (hi : X.N[i]? = some x := by rfl) (hx : Loc X.env.scope x := by exact Or.inl rfl) (hs : swapsWith e (some (.Name x pos')) pos.line X.env = pure false := by rfl)
    (hf : X.fn x = true ∨ X.env.scope.names.lookup x = some .local := by first | exact .inl rfl | exact .inr rfl | assumption) : EX X G M (.Assign [.Name x pos'] e pos) E := by
  intro pins s σ H I R
  refine wpAny_Assign_Name (thn (h pins s σ H I R) fun v s1 ⟨y, H1, d, M1, I1, r1, g1, i1, R1, q1⟩ => ?_) hs
  have hl : i < σ.length := by rw [I1.len]; exact (List.getElem?_eq_some_iff.mp hi).1
  exact store_ok I1 hN hi hx r1 (fun s2 I2 => ⟨_, H1, _, M1, I2, g1, R1.set hl i1, q1⟩) hf
/-- while, by a word and a measure -/
theorem ex_while {body : List Stmt} (Iv : Ga → MH → Prop) (μ : Ga → MH → Nat) (hp : PassesOwn (model X.prog X.w) X.A X.env X.xe) (h0 : Iv G M)
    (step : ∀ G M, Iv G M → TV X G M c fun k M1 => if k = true then EXs X G M1 body { nx := fun G' M' => Iv G' M' ∧ μ G' M' < μ G M, ct := fun G' M' => Iv G' M' ∧ μ G' M' < μ G M, bk := E.nx, rt := E.rt } else E.nx G M1) :
    EX X G M (.While c body [] pos) E := by
  intro pins s σ H I R
  refine wpAny_While (codeAny_whileLoop (fun n s' => ∃ σ' H' G' M', Inv X pins σ' H' s' ∧ Grow H H' ∧ Rel X G' M' σ' H' ∧ Iv G' M' ∧ n = μ G' M') ?_ (μ G M) ⟨σ, H, G, M, I, Grow.refl _, R, h0, rfl⟩)
  rintro n s1 ⟨σ1, H1, G1, M1, I1, g1, R1, w1, rfl⟩
  refine wpAny_passesOwn hp (thn (step G1 M1 w1 pins s1 σ1 H1 I1 R1) fun k s2 ⟨H2, M2, I2, g2, R2, q2⟩ => ?_)
  cases k with
  | true =>
    rw [if_pos rfl]
    refine wpAny_passesOwn hp (thn (q2 pins s2 σ1 H2 I2 R2) fun f s3 q3 => ?_)
    cases f with
    | next =>
      obtain ⟨σ3, H3, G3, M3, I3, g3, R3, w3, lt⟩ := q3
      exact ⟨_, lt, σ3, H3, G3, M3, I3, (g1.trans g2).trans g3, R3, w3, rfl⟩
    | cont =>
      obtain ⟨σ3, H3, G3, M3, I3, g3, R3, w3, lt⟩ := q3
      exact ⟨_, lt, σ3, H3, G3, M3, I3, (g1.trans g2).trans g3, R3, w3, rfl⟩
    | brk => exact SPD.grow (f := .brk) (E := { E with bk := E.nx }) (g1.trans g2) q3
    | ret v => exact SPD.grow (f := .ret v) (E := E) (g1.trans g2) q3
  | false =>
    rw [if_neg Bool.false_ne_true]
    exact wpAny_execs_nil ⟨σ1, H2, G1, M2, I2, g1.trans g2, R2, q2⟩
/-- a target -/
def GV (X : Cx) (G : Ga) (M : MH) (tg : Expr) (d : D) (Q : Ga → MH → Prop) : Prop :=
  ∀ (pins : List (Addr × Obj)) (s : Shared) (σ : St) (H : Hp) (v : V) (u : Value), Inv X pins σ H s → Rel X G M σ H → RelV v u → Is H d v →
    wpAny (model X.prog X.w) X.A (assign tg X.env u) (fun _ s' => ∃ σ' H' G' M', Inv X pins σ' H' s' ∧ Grow H H' ∧ Rel X G' M' σ' H' ∧ Q G' M') X.xe s
theorem gv_name (i : Nat) {x : Str} {d : D} {Qg : Ga → MH → Prop} (hN : X.N.Nodup) (q : Qg (G.set i (some d)) M) (hi : X.N[i]? = some x := by rfl) (hx : Loc X.env.scope x := by exact Or.inl rfl) (hf : X.fn x = true ∨ X.env.scope.names.lookup x = some .local := by first | exact .inl rfl | exact .inr rfl | assumption) :
    GV X G M (.Name x pos) d Qg := by
  intro pins s σ H v u I R r i1
  have hl : i < σ.length := by rw [I.len]; exact (List.getElem?_eq_some_iff.mp hi).1
  exact wpAny_assign_Name (store_ok I hN hi hx r (fun s' I' => ⟨_, H, _, M, I', Grow.refl _, R.set hl i1, q⟩) hf)
def GVs (X : Cx) (G : Ga) (M : MH) (ts : List Expr) (ds : List D) (Q : Ga → MH → Prop) : Prop :=
  ∀ (pins : List (Addr × Obj)) (s : Shared) (σ : St) (H : Hp) (vs : List V) (us : List Value), Inv X pins σ H s → Rel X G M σ H → Vals vs us → IsL H ds vs →
    wpAny (model X.prog X.w) X.A (assignInOrder ((assignEach ts X.env).map (·.2)) us) (fun _ s' => ∃ σ' H' G' M', Inv X pins σ' H' s' ∧ Grow H H' ∧ Rel X G' M' σ' H' ∧ Q G' M') X.xe s
theorem gvs_nil {Qg : Ga → MH → Prop} (q : Qg G M) : GVs X G M [] [] Qg := by
  intro pins s σ H vs us I R r i
  rw [isl_nil] at i; subst i
  cases r
  exact assignInOrder_nil ⟨σ, H, G, M, I, Grow.refl _, R, q⟩
theorem gvs_cons {tg : Expr} {ts : List Expr} {d : D} {ds : List D} {Qg : Ga → MH → Prop} (h : GV X G M tg d fun G1 M1 => GVs X G1 M1 ts ds Qg) (hs : (assignEach (tg :: ts) X.env).map (·.2) = assign tg X.env :: (assignEach ts X.env).map (·.2) := by rfl) : GVs X G M (tg :: ts) (d :: ds) Qg := by
  intro pins s σ H vs us I R r i
  rw [isl_cons] at i
  obtain ⟨x, xs, rfl, i1, i2⟩ := i
  cases r with
  | cons r rr =>
    rw [hs]
    refine assignInOrder_cons (thn (h pins s σ H _ _ I R r i1) fun _ s1 ⟨σ1, H1, G1, M1, I1, g1, R1, q1⟩ => ?_)
    exact thn (q1 pins s1 σ1 H1 _ _ I1 R1 rr (i2.grow g1)) fun _ s2 ⟨σ2, H2, G2, M2, I2, g2, R2, q2⟩ => ⟨σ2, H2, G2, M2, I2, g1.trans g2, R2, q2⟩
theorem gv_tup {ts : List Expr} {k : Nat} {ds : List D} {Qg : Ga → MH → Prop} (hc : X.calm = true) (h : GVs X G M ts ds Qg) (hn : (assignEach ts X.env).length = ds.length := by rfl) (hst : (assignEach ts X.env).findIdx? (·.1) = none := by rfl) : GV X G M (.Tuple ts k pos) (.tup ds) Qg := by
  intro pins s σ H v u I R r i
  rw [is_tup] at i
  obtain ⟨a, xs, rfl, h1, h2⟩ := i
  cases r
  obtain ⟨its, rv, ht, hz⟩ := I.tuple (SqT.of h1)
  refine assign_Tuple_tuple (I.ok.hd hc) ht (by simp [hn, h2.len, rv.length]) hst fun h' hx => ?_
  have I1 : Inv X pins σ H { s with heap := h' } := I.kept (t' := s.toks) fun b o e => hx b o (Nat.ne_of_lt (Heap.lt_size e)) e
  exact h pins _ σ H xs _ I1 R (by simpa using rv) h2
/-- target = value -/
theorem ex_asg {tg : Expr} (h : EV X G M e fun d M1 => GV X G M1 tg d E.nx) (hs : swapsWithSole [tg] e pos.line X.env = pure false := by rfl) (hw : swappedStores [tg] e X.env = pure none := by rfl)
    (h1 : (assignEach [tg] X.env).map (·.2) = [assign tg X.env] := by rfl) : EX X G M (.Assign [tg] e pos) E := by
  intro pins s σ H I R
  refine wpAny_Assign_stores (thn (h pins s σ H I R) fun v s1 ⟨x, H1, d, M1, I1, r1, g1, i1, R1, q1⟩ => ?_) hs hw
  rw [h1]
  exact thn (q1 pins s1 σ H1 x v I1 R1 r1 i1) fun _ s2 ⟨σ2, H2, G2, M2, I2, g2, R2, q2⟩ => ⟨σ2, H2, G2, M2, I2, g1.trans g2, R2, q2⟩

/-! ### for -/
/-- the turns of an iterator that walks data: at turn i the datum, or the end -/
theorem ex_for {tg iter : Expr} {body : List Stmt} {wi : TI} (hp : PassesOwn (model X.prog X.w) X.A X.env X.xe) (hc : X.calm = true) (hi : PI X tg iter wi)
    (h : ∀ σ H, KF X.K H → Rel X G M σ H → wi σ H fun J H1 => Grow H H1 ∧ ∃ (M1 : MH) (n : Nat) (Iv : Nat → Ga → MH → Prop), Rel X G M1 σ H1 ∧ Iv 0 G M1 ∧
      ∀ i G' M', i ≤ n → Iv i G' M' → (i = n → E.nx G' M') ∧ (∀ σ' H', Grow H1 H' → Rel X G' M' σ' H' → (i = n → J.stop i H') ∧ (i < n → J.go i H' ∧ ∀ x H2, J.yld i H' x H2 → Grow H' H2 ∧ ∃ d M2, Is H2 d x ∧ MemOk X.K M2 H2 ∧
        GV X G' M2 tg d fun G3 M3 => EXs X G3 M3 body { nx := Iv (i + 1), ct := Iv (i + 1), bk := E.nx, rt := E.rt })))
    (hs : ∀ x, foldedSetIterable iter X.env x = pure x := by intro _; rfl) : EX X G M (.For tg iter body [] pos) E := by
  intro pins s σ H I R
  refine wpAny_For (thn (hi pins s σ H _ I (h σ H (kf_of I) R)) fun v s1 h1 => thn h1 fun itv s2 h2 => ?_) hs
  obtain ⟨it, fp, tn, J, H2, e, I2, T, st2, f2, g2, M2, n, Iv, R2, w0, turn⟩ := h2
  subst e
  have stat : ∀ {H' : Hp}, (∀ b ∈ fp, H' b = none) → ∀ b ∈ fp, FpOk X pins H' b := fun hn b hb => ⟨hn b hb, (f2 b hb).2⟩
  refine codeAny_forLoop_any (fun m s' => ∃ i σ' H' G' M', Inv X pins σ' H' s' ∧ Grow H2 H' ∧ Rel X G' M' σ' H' ∧ tn i s'.heap ∧ (∀ b ∈ fp, H' b = none) ∧ i ≤ n ∧ m = n - i ∧ Iv i G' M') ?_ n ⟨0, σ, H2, G, M2, I2, Grow.refl _, R2, st2, fun b hb => (f2 b hb).1, Nat.zero_le _, rfl, w0⟩
  rintro m s3 ⟨i, σ3, H3, G3, M3, I3, g3, R3, st3, fr3, hin, rfl, w3⟩
  obtain ⟨tn1, tn2⟩ := turn i G3 M3 hin w3
  obtain ⟨stop, go⟩ := tn2 σ3 H3 g3 R3
  by_cases hlt : i < n
  · obtain ⟨go, step⟩ := go hlt
    refine wpAny_passesOwn hp (thn (T.item X rfl rfl rfl hc i pins s3 σ3 H3 X.xe I3 (stat fr3) st3 go) fun r s4 ⟨u, hr, h4⟩ => ?_)
    subst hr
    refine wpAny_passesOwn hp (thn h4 fun _ s5 ⟨x, H5, I5, r5, y5, st5, fr5⟩ => ?_)
    have I5' := I5.pinned (stat fr5) (T.obj _ _ st5)
    obtain ⟨g5, d, M5, i5, m5, gv⟩ := step x H5 y5
    refine wpAny_passesOwn hp (thn (gv _ s5 σ3 H5 x u I5' (R3.to g5 m5) r5 i5) fun _ s6 ⟨σ6, H6, G6, M6, I6, g6, R6, q6⟩ => ?_)
    refine wpAny_passesOwn hp (thn (q6 _ s6 σ6 H6 I6 R6) fun f s7 q7 => ?_)
    have gg : Grow H2 H6 := (g3.trans g5).trans g6
    have again : ∀ {σ7 : St} {H7 : Hp} {G7 : Ga} {M7 : MH}, Inv X (pins ++ pinsAt fp s5.heap) σ7 H7 s7 → Grow H6 H7 → Rel X G7 M7 σ7 H7 → Iv (i + 1) G7 M7 →
        ∃ m, m < n - i ∧ ∃ i σ' H' G' M', Inv X pins σ' H' s7 ∧ Grow H2 H' ∧ Rel X G' M' σ' H' ∧ tn i s7.heap ∧ (∀ b ∈ fp, H' b = none) ∧ i ≤ n ∧ m = n - i ∧ Iv i G' M' := fun {σ7 H7 G7 M7} I7 g7 R7 n7 => by
      refine ⟨n - (i + 1), by omega, i + 1, σ7, H7, G7, M7, I7.unpinned, gg.trans g7, R7, T.keep _ _ _ st5 fun b hb o e => (I7.pin (b, o) (List.mem_append_right _ (List.mem_append_right _ (mem_pinsAt hb e)))).1, fun b hb => ?_, hlt, rfl, n7⟩
      obtain ⟨o, e, d⟩ := T.obj _ _ st5 b hb
      exact (I7.pin (b, o) (List.mem_append_right _ (List.mem_append_right _ (mem_pinsAt hb e)))).2.1
    cases f with
    | next => obtain ⟨σ7, H7, G7, M7, I7, g7, R7, n7⟩ := q7; exact again I7 g7 R7 n7
    | cont => obtain ⟨σ7, H7, G7, M7, I7, g7, R7, n7⟩ := q7; exact again I7 g7 R7 n7
    | brk => obtain ⟨σ7, H7, G7, M7, I7, g7, R7, q7⟩ := q7; exact ⟨σ7, H7, G7, M7, I7.unpinned, g2.trans (gg.trans g7), R7, q7⟩
    | ret v => obtain ⟨x7, σ7, H7, d7, M7, I7, r7, g7, i7, R7, q7⟩ := q7; exact ⟨x7, σ7, H7, d7, M7, I7.unpinned, r7, g2.trans (gg.trans g7), i7, R7, q7⟩
  · have e : i = n := by omega
    subst e
    refine wpAny_passesOwn hp (thn (T.done X rfl rfl rfl hc i pins s3 σ3 H3 X.xe I3 (stat fr3) st3 (stop rfl)) fun r s4 ⟨hr, I4⟩ => ?_)
    subst hr
    exact wpAny_execs_nil ⟨σ3, H3, G3, M3, I4, g2.trans g3, R3, tn1 rfl⟩
end
end D3

set_option Elab.async false
set_option linter.all false
set_option maxRecDepth 100000
set_option maxHeartbeats 4000000
namespace D3
open PySem PySem.Spec PyProof.Rows L2
section
variable {X : Cx} {G : Ga} {M : MH} {a b c e tg iter : Expr} {es rest : List Expr} {body : List Stmt} {pos : Pos} {Q : DK} {E : EndsD}
def tD (X : Cx) (G : Ga) (e : Expr) : TE := fun σ H Q => ∃ M Qd, Rel X G M σ H ∧ EV X G M e Qd ∧ ∀ v H' d M', KF X.K H' → Grow H H' → Is H' d v → Rel X G M' σ H' → Qd d M' → Q v H'
theorem pe_D : PE X e (tD X G e) := by
  intro pins s σ H Q I ⟨M, Qd, R, h, k⟩
  exact thn (h pins s σ H I R) fun u s' ⟨v, H', d, M', I', r, g, i, R', q⟩ => ⟨v, H', I', r, k v H' d M' (kf_of I') g i R' q⟩
def tAD (X : Cx) (G : Ga) (es : List Expr) : TA := fun σ H Q => ∃ M Qd, Rel X G M σ H ∧ AV X G M es Qd ∧ ∀ vs H' ds M', KF X.K H' → Grow H H' → IsL H' ds vs → Rel X G M' σ H' → Qd ds M' → Q vs H'
theorem pa_D : PA X es (tAD X G es) := by
  intro pos pins s σ H Q I ⟨M, Qd, R, h, k⟩
  exact thn (h pos pins s σ H I R) fun u s' ⟨v, H', d, M', I', r, g, i, R', q⟩ => ⟨v, H', I', r, k v H' d M' (kf_of I') g i R' q⟩
/-- for x in a list -/
theorem ex_for_list (hp : PassesOwn (model X.prog X.w) X.A X.env X.xe) (hc : X.calm = true)
    (h : EV X G M iter fun d M1 => ∃ (l : Addr) (ds : List D) (Iv : Nat → Ga → MH → Prop), d = .ref l ∧ (M1 l = some (.lst ds) ∨ M1 l = some (.ro ds)) ∧ Iv 0 G M1 ∧ (∀ i G' M', i ≤ ds.length → Iv i G' M' → M' l = M1 l) ∧
      (∀ i x G' M', ds[i]? = some x → Iv i G' M' → GV X G' M' tg x fun G3 M3 => EXs X G3 M3 body { nx := Iv (i + 1), ct := Iv (i + 1), bk := E.nx, rt := E.rt }) ∧ (∀ G' M', Iv ds.length G' M' → E.nx G' M'))
    (hs : ∀ x, foldedSetIterable iter X.env x = pure x := by intro _; rfl) : EX X G M (.For tg iter body [] pos) E := by
  refine ex_for hp hc (pi_list (pe_D (G := G))) (fun σ H kf R => ?_) hs
  refine ⟨M, _, R, h, fun v H' d M' kf' g i R' q => ?_⟩
  obtain ⟨l, ds, Iv, e, hl, h0, keep, step, fin⟩ := q
  subst e
  rw [is_ref] at i; subst i
  have sq : ∀ {H2 : Hp} {M2 : MH}, MemOk X.K M2 H2 → M2 l = M' l → ∃ xs, SqL X.K H2 l xs ∧ IsL H2 ds xs := fun {H2 M2} m e => by
    rcases hl with hl | hl
    · obtain ⟨xs, h1, h2⟩ := m l _ (e.trans hl); exact ⟨xs, SqL.of h1, h2⟩
    · exact m l _ (e.trans hl)
  obtain ⟨xs0, hx0, hi0⟩ := sq R'.mem rfl
  refine ⟨l, rfl, ⟨xs0, hx0⟩, g, M', ds.length, Iv, R', h0, fun i G2 M2 hin w2 => ⟨fun e => fin G2 M2 (by rw [← e]; exact w2), fun σ2 H2 _ R2 => ?_⟩⟩
  obtain ⟨xs, hx, hxi⟩ := sq R2.mem (keep i G2 M2 hin w2)
  have hlen := hxi.len
  refine ⟨fun e => ⟨xs, hx, by omega⟩, fun hlt => ⟨⟨xs, xs[i]'(by omega), hx, by simp⟩, fun x H3 y => ?_⟩⟩
  obtain ⟨e, y⟩ := y
  subst e
  have e1 := y xs hx
  obtain ⟨d, e2, i2⟩ := hxi.get' e1
  exact ⟨Grow.refl _, d, M2, i2, R2.mem, step i d G2 M2 e2 w2⟩
/-- for x in a tuple -/
theorem ex_for_tup (hp : PassesOwn (model X.prog X.w) X.A X.env X.xe) (hc : X.calm = true)
    (h : EV X G M iter fun d M1 => ∃ (ds : List D) (Iv : Nat → Ga → MH → Prop), d = .tup ds ∧ Iv 0 G M1 ∧
      (∀ i x G' M', ds[i]? = some x → Iv i G' M' → GV X G' M' tg x fun G3 M3 => EXs X G3 M3 body { nx := Iv (i + 1), ct := Iv (i + 1), bk := E.nx, rt := E.rt }) ∧ (∀ G' M', Iv ds.length G' M' → E.nx G' M'))
    (hs : ∀ x, foldedSetIterable iter X.env x = pure x := by intro _; rfl) : EX X G M (.For tg iter body [] pos) E := by
  refine ex_for hp hc (pi_tup (pe_D (G := G))) (fun σ H kf R => ?_) hs
  refine ⟨M, _, R, h, fun v H' d M' kf' g i R' q => ?_⟩
  obtain ⟨ds, Iv, e, h0, step, fin⟩ := q
  subst e
  rw [is_tup] at i
  obtain ⟨l, xs, rfl, hx, hxi⟩ := i
  have hlen := hxi.len
  refine ⟨l, rfl, ⟨xs, SqT.of hx⟩, g, M', ds.length, Iv, R', h0, fun i G2 M2 hin w2 => ⟨fun e => fin G2 M2 (by rw [← e]; exact w2), fun σ2 H2 g2 R2 => ?_⟩⟩
  have hx2 : SqT X.K H2 l xs := SqT.of (g2 _ _ hx)
  refine ⟨fun e => ⟨xs, hx2, by omega⟩, fun hlt => ⟨⟨xs, xs[i]'(by omega), hx2, by simp⟩, fun x H3 y => ?_⟩⟩
  obtain ⟨e, y⟩ := y
  subst e
  have e1 := y xs hx2
  obtain ⟨d, e2, i2⟩ := (hxi.grow g2).get' e1
  exact ⟨Grow.refl _, d, M2, i2, R2.mem, step i d G2 M2 e2 w2⟩
/-- for x in range(n) -/
theorem ex_for_range {p : Pos} (hp : PassesOwn (model X.prog X.w) X.A X.env X.xe) (hc : X.calm = true) (hm : X.mg "range" = none)
    (h : AV X G M [e] fun ds M1 => ∃ (n : Int) (Iv : Nat → Ga → MH → Prop), ds = [.int n] ∧ -(2 ^ 62) ≤ n ∧ n < 2 ^ 62 ∧ Iv 0 G M1 ∧
      (∀ (i : Nat) G' M', i < n.toNat → Iv i G' M' → GV X G' M' tg (.int i) fun G3 M3 => EXs X G3 M3 body { nx := Iv (i + 1), ct := Iv (i + 1), bk := E.nx, rt := E.rt }) ∧ (∀ G' M', Iv n.toNat G' M' → E.nx G' M'))
    (hg : Gl X "range" := by rfl) (hse : starEach [e] X.env = [(false, eval e X.env)] := by rfl) (hs : ∀ x, foldedSetIterable (.Call (.Name "range" p) [e] [] pos) X.env x = pure x := by intro _; rfl) {pos' : Pos} : EX X G M (.For tg (.Call (.Name "range" p) [e] [] pos) body [] pos') E := by
  refine ex_for hp hc (pi_range1 hg hm (pa_D (G := G)) hse) (fun σ H kf R => ?_) hs
  refine ⟨M, _, R, h, fun vs H' ds M' kf' g i R' q => ?_⟩
  obtain ⟨n, Iv, e, h1, h2, h0, step, fin⟩ := q
  subst e
  obtain ⟨v, rfl, hv⟩ := isl1 i
  rw [is_int] at hv; subst hv
  refine ⟨n, rfl, h1, h2, g, M', n.toNat, Iv, R', h0, fun i G2 M2 hin w2 => ⟨fun e => fin G2 M2 (by rw [← e]; exact w2), fun σ2 H2 _ R2 => ⟨fun e => ?_, fun hlt => ⟨hlt, fun x H3 y => ?_⟩⟩⟩⟩
  · show n.toNat ≤ i
    omega
  · obtain ⟨e, y⟩ := y
    subst e; subst y
    refine ⟨Grow.refl _, .int i, M2, is_int.mpr (by simp), R2.mem, step i G2 M2 hlt w2⟩

/-! ### a def, by its body -/
def startG (N : List Str) (ds : List D) : Ga := ds.map some ++ List.replicate (N.length - ds.length) none
theorem rel_start {X : Cx} {N : List Str} {ds : List D} {vs : List V} {M : MH} {H : Hp} (i : IsL H ds vs) (m : MemOk X.K M H) : Rel X (startG N ds) M (L2.start N vs) H := by
  refine ⟨fun j d e => ?_, m⟩
  have hl := i.len
  unfold startG at e
  unfold L2.start
  by_cases hj : j < ds.length
  · rw [List.getElem?_append_left (by simpa using hj), List.getElem?_map] at e
    cases q : ds[j]? with
    | none => rw [q] at e; cases e
    | some d' =>
      rw [q] at e
      have e' : d' = d := by simpa using e
      subst e'
      obtain ⟨v, e2, h⟩ := i.get q
      refine ⟨v, ?_, h⟩
      rw [List.getElem?_append_left (by simp; omega), List.getElem?_map, e2]
      rfl
  · rw [List.getElem?_append_right (by simpa using hj), List.getElem?_replicate] at e
    split at e <;> cases e
end
section
variable {P : Program} {w : World} {K : PySem.W.Frag} {mg : Str → Option Value} {base : Heap}
/-- THE RULE for a def by data -/
theorem fn_D {x qual : Str} {st : Stmt} {f : Addr} {fd : FuncData} {N ps : List Str} {k : Nat} {sp : SpD} (F : Fun K x qual st f fd) (S : FnScope N ps (defScope st)) (len : ∀ ds M Q, sp ds M Q → ds.length = ps.length)
    (hbody : ∀ (cdv : Value) (A : Around) (outer : List Env) (s : Shared) (H : Hp) (EE : XK) (ds : List D) (M : MH) (Q : DK), Room k (A.deeper (envOfC qual (defScope st) s.heap.objs.size f cdv)) → sp ds M Q →
      EXs (cxOf CX0 P w K mg base N qual (defScope st) f cdv A outer s H EE).nox (startG N ds) M (defBody st) { nx := fun _ M' => Q .non M', rt := Q }) : FnOk P w K mg base CX0 (k + 1) f fd ps (liftSp K sp) := by
  refine F.ok S (fun vs H Q E h => ?_) (fun cdv A outer s H vs Q E hr h => ?_)
  · obtain ⟨ds, M, Qd, i, _, h, _⟩ := h
    rw [← i.len]; exact len _ _ _ h
  obtain ⟨ds, M, Qd, i, m, h, k⟩ := h
  have B := hbody cdv A outer s H E ds M Qd hr h
  refine ⟨fun D σ' H' => σ' = L2.start N vs ∧ H' = H ∧ D.nx = (fun _ H' => Q .non H') ∧ D.rt = Q, ?_, rfl, rfl, rfl, rfl⟩
  intro pins s' σ' H' D I ⟨e1, e2, e3, e4⟩
  subst e1; subst e2
  refine thn (B pins s' _ _ I (rel_start i m)) fun fl s'' q => ?_
  cases fl with
  | next =>
    obtain ⟨σ2, H2, G2, M2, I2, g2, R2, q2⟩ := q
    refine ⟨σ2, H2, I2, ?_⟩
    rw [e3]
    exact k .non H2 .non M2 g2 (is_non.mpr rfl) R2.mem q2
  | brk => obtain ⟨_, _, _, _, _, _, _, z⟩ := q; exact z.elim
  | cont => obtain ⟨_, _, _, _, _, _, _, z⟩ := q; exact z.elim
  | ret u =>
    obtain ⟨v, σ2, H2, d, M2, I2, r2, g2, i2, m2, q2⟩ := q
    refine ⟨v, σ2, H2, I2, r2, ?_⟩
    rw [e4]
    exact k v H2 d M2 g2 i2 m2 q2
/-- .. as it is called -/
theorem cal_D {x : Str} {st : Stmt} {f : Addr} {fd : FuncData} {ps : List Str} {k : Nat} {sp : SpD} (F : Fun K x x st f fd) (G : FnOk P w K mg base CX0 k f fd ps (liftSp K sp)) (b : Binds K fd ps []) (m : mg x = some (.ref f)) : Cal P w K mg base k x sp :=
  ⟨f, fd, ps, G, m, F.kp, b⟩
theorem Cal.mono {j k : Nat} {x : Str} {sp : SpD} (C : Cal P w K mg base j x sp) (h : j ≤ k) : Cal P w K mg base k x sp :=
  let ⟨f, fd, ps, F, m, kp, b⟩ := C.ex; ⟨f, fd, ps, F.mono h, m, kp, b⟩
end
end D3

set_option Elab.async false
set_option linter.all false
set_option maxRecDepth 100000
set_option maxHeartbeats 4000000
namespace D3
open PySem PySem.Spec PyProof.Rows L2

/-- a comprehension's turns, the step ahead of the store by its rule -/
theorem compLoop_own {prog : Program} {w : World} {A : Around} {R : Result → Shared → Prop} {s : Shared} {elt target iter : Expr} {ifs : List Expr} {scope : Scope} {pos : Pos} {it acc : Value} {env : Env} (I : Nat → Shared → Prop)
    (turn : ∀ n s, I n s → wpAny (model prog w) A (pyNext it) (fun r s1 => match r with
      | none => R (.ok .next) s1
      | some v => wpAny (model prog w) A (letOwnedTupleGo target it v) (fun _ s2 => wpAny (model prog w) A (assign target env v) (fun _ s2 =>
          wpAny (model prog w) A (forIn ifs true fun c r => if r = true then do let ok ← isTrue c env (eval c env); pure (ForInStep.yield ok) else pure (ForInStep.yield r)) (fun ok s3 =>
            if ok = true then wpAny (model prog w) A (eval elt env) (fun x s4 =>
              wpAny (model prog w) A (call (.builtin "list.append") [acc, x]) (fun _ s5 => ∃ m, m < n ∧ I m s5) (fun _ _ => False) s4) (fun _ _ => False) s3
            else ∃ m, m < n ∧ I m s3) (fun _ _ => False) s2) (fun _ _ => False) s2) (fun _ _ => False) s1) (fun _ _ => False) s)
    (n : Nat) (h : I n s) :
    codeAny (model prog w) A (.compLoop (.ListComp elt [⟨target, iter, ifs, 0⟩] scope pos) 0 it acc env) R s := by
  refine codeAny_loop rfl I (fun n s hI => ?_) n h
  show wpAny _ A ((compTurn (.ListComp elt [⟨target, iter, ifs, 0⟩] scope pos) 0 it acc env).onRaise (fun x => do noteFrame x env; theTreesLotGoes x)) _ _ s
  refine wpAny_noted ?_
  rw [compTurn_list]
  have no : ∀ {α : Type} {t : Sem α} {Q : α → Shared → Prop} {E : Value → Shared → Prop} {s : Shared}, wpAny (model prog w) A t Q (fun _ _ => False) s → wpAny (model prog w) A t Q E s := fun h => wpAny_mono h (fun _ _ x => x) fun _ _ x => x.elim
  refine wpAny_bind (wpAny_standAt (wpAny_bind (no (thn (turn n s hI) fun r s1 h1 => ?_))))
  cases r with
  | none => exact wpAny_pure h1
  | some v =>
    refine wpAny_bind (no (thn h1 fun _ s2 h2 => ?_))
    refine wpAny_bind (no (thn h2 fun _ s3 h3 => wpAny_bind (no (thn h3 fun ok s4 h4 => ?_))))
    cases ok with
    | false => exact wpAny_pure ⟨rfl, h4⟩
    | true =>
      exact wpAny_bind (wpAny_bind (no (thn h4 fun x s5 h5 => wpAny_bind (no (thn h5 fun _ s6 h6 => wpAny_pure (wpAny_pure ⟨rfl, h6⟩))))))

/-- the context of a comprehension's block -/
def compCx (X : Cx) (N : List Str) (scope : Scope) (cl : List (Str × Addr)) (C : Addr) (s : Shared) (H : Hp) (ex : List Addr) : Cx :=
  { X with N := N, s₀ := s, H₀ := H, env := compEnvC scope cl C X.env, outer := X.stack, ex := ex, fn := fun _ => false, pn := [] }

/-- what the text of a comprehension must have: own names (targets), then the names from around, at the slots js of the def -/
structure CompOk (X : Cx) (own : List Str) (js : List Nat) (N : List Str) (scope : Scope) (cl : List (Str × Addr)) : Prop where
  clos : closureFor scope X.env = pure cl
  kind : scope.kind = .function
  names : ∀ x ∈ scope.names, x.2 = .local → scope.names.lookup x.1 = some .local
  nocell : ∀ x ∈ scope.names, x.2 ≠ .cell
  cells : ∀ x c, cl.lookup x = some c → X.env.cells.lookup x = some c
  has : ∀ x, ((relabel scope X.env).names.lookup x = some .cell ∨ (relabel scope X.env).names.lookup x = some .free) → ∃ c, cl.lookup x = some c
  frees : ∀ (k j : Nat), js[k]? = some j → ∃ x, N[own.length + k]? = some x ∧ X.N[j]? = some x ∧ Vis X.env.scope x ∧ (∀ m h u, Look X.env h m x u → ∃ c, cl.lookup x = some c ∧ h.IsCell c (some u)) ∧
    ((relabel scope X.env).names.lookup x = some .cell ∨ (relabel scope X.env).names.lookup x = some .free)
  len : N.length = own.length + js.length

def compG (own : List Str) (js : List Nat) (G : Ga) : Ga := List.replicate own.length none ++ js.map fun j => (G[j]?).getD none
def Sub (G G' : Ga) : Prop := ∀ (i : Nat) (d : D), G[i]? = some (some d) → G'[i]? = some (some d)
theorem Rel.sub {X : Cx} {G G' : Ga} {M : MH} {σ : St} {H : Hp} (R : Rel X G' M σ H) (s : Sub G G') : Rel X G M σ H := ⟨fun i d e => R.loc i d (s i d e), R.mem⟩

/-- all tests -/
def TVs (X : Cx) (G : Ga) (M : MH) (cs : List Expr) (Q : Bool → MH → Prop) : Prop := match cs with
  | [] => Q true M
  | [c] => TV X G M c Q
  | _ => False
theorem tvs_run {X : Cx} {G : Ga} {M : MH} {cs : List Expr} {Q : Bool → MH → Prop} (h : TVs X G M cs Q) {pins : List (Addr × Obj)} {s : Shared} {σ : St} {H : Hp} (I : Inv X pins σ H s) (R : Rel X G M σ H) :
    wpAny (model X.prog X.w) X.A (forIn cs true fun c r => if r = true then do let ok ← isTrue c X.env (eval c X.env); pure (ForInStep.yield ok) else pure (ForInStep.yield r)) (TPD X pins σ G H Q) X.xe s := by
  unfold TVs at h
  split at h
  · exact wpAny_tests_nil ⟨H, M, I, Grow.refl _, R, h⟩
  · exact wpAny_tests_one (h pins s σ H I R)
  · exact h.elim

section
variable {X : Cx} {G : Ga} {M : MH} {elt tg iter : Expr} {ifs : List Expr} {scope : Scope} {pos : Pos} {Q : DK} {own : List Str} {js : List Nat} {N : List Str} {cl : List (Str × Addr)}
/-- an iterator that walks ds -/
def Walks (K : PySem.W.Frag) (M : MH) (J : It) (H : Hp) (ds : List D) : Prop := ∀ H', Grow H H' → MemOk K M H' → (∀ i, i = ds.length → J.stop i H') ∧
  ∀ i, i < ds.length → J.go i H' ∧ ∀ x H2, J.yld i H' x H2 → Grow H' H2 ∧ (∀ b o, H' b = some o → H2 b = some o) ∧ MemOk K M H2 ∧ ∃ d, ds[i]? = some d ∧ Is H2 d x
theorem comp_ok (T : CompOk X own js N scope cl) {pins : List (Addr × Obj)} {σ : St} {H : Hp} {s : Shared} {h1 : Heap} {tk : Nat} {fp : List Addr} (I : Inv X pins σ H s) (hf : ∀ b ∈ fp, FpOk X pins H b) (ht : ∀ b ∈ fp, ∃ o, s.heap.get? b = some o)
    (hn : h1.Ns s.heap.objs.size (fun _ => none)) (hk : ∀ b o, s.heap.get? b = some o → h1.get? b = some o) (R : Rel X G M σ H) :
    ∃ σc, Inv (compCx X N scope cl s.heap.objs.size s H fp) [] σc H { s with heap := h1, toks := tk } ∧ Rel (compCx X N scope cl s.heap.objs.size s H fp) (compG own js G) M σc H := by
  let σc : St := List.replicate own.length none ++ js.map fun j => (σ[j]?).getD none
  have hlow : ∀ b ∈ fp, b < s.heap.objs.size := fun b hb => let ⟨o, e⟩ := ht b hb; Heap.lt_size e
  refine ⟨σc, ⟨?_, rfl, I.bare, Un.kept hk, ?_, ?_, ?_, ?_, ?_, I.hok.kept hk, ?_⟩, ?_⟩
  · exact {
      mod := I.ok.mod
      kind := T.kind
      glob := I.ok.glob
      blt := I.ok.blt
      above := Nat.le_refl _
      inj := fun x y c h1 h2 => I.ok.inj x y c (T.cells x c h1) (T.cells y c h2)
      has := fun x hx => T.has x hx
      cab := fun x c hx _ => nomatch hx
      hd := I.ok.hd
      frames := I.ok.frames
      stk := .inl rfl
      exf := fun b hb => ⟨Nat.ne_of_lt (hlow b hb), fun x c e => (hf b hb).2.2.2.2.1 x c (T.cells x c e)⟩
      bs := I.bs
      bsz := Nat.le_trans I.ok.bsz I.sz
      noex := fun b o e hb => by
        rcases (hf b hb).2.2.2.1 with z | z
        · exact I.ok.noex b o e z
        · exact absurd (Nat.lt_of_lt_of_le (Heap.lt_size (I.ok.bs b o e).1) z) (Nat.lt_irrefl _)
      exfs := fun b hb z => by
        rcases List.mem_cons.mp (I.stkSub b z) with e | e
        · exact (hf b hb).2.1 e
        · exact (hf b hb).2.2.1 e
      funs := I.stack
      frf := I.stkFree }
  · refine ⟨_, hn, fun i x v e1 e2 e3 => ?_⟩
    obtain ⟨m, hm, hl⟩ := I.loc
    have hi : own.length ≤ i := by
      refine Nat.le_of_not_lt fun z => ?_
      have e2' : (List.replicate own.length none ++ js.map fun j => (σ[j]?).getD none)[i]? = some (some v) := e2
      rw [List.getElem?_append_left (by simpa using z), List.getElem?_replicate] at e2'
      split at e2' <;> cases e2'
    have e2' : (List.replicate own.length none ++ js.map fun j => (σ[j]?).getD none)[i]? = some (some v) := e2
    rw [List.getElem?_append_right (by simpa using hi), List.getElem?_map, List.length_replicate] at e2'
    cases q : js[i - own.length]? with
    | none => rw [q] at e2'; cases e2'
    | some j =>
      rw [q] at e2'
      have e4 : (σ[j]?).getD none = some v := by simpa using e2'
      obtain ⟨y, n1, n2, n3, n4, n5⟩ := T.frees _ _ q
      have e5 : own.length + (i - own.length) = i := by omega
      rw [e5] at n1
      have e6 : N[i]? = some x := e1
      rw [e6] at n1; cases n1
      have e7 : σ[j]? = some (some v) := by
        cases z : σ[j]? with
        | none => rw [z] at e4; cases e4
        | some w => rw [z] at e4; exact congrArg some e4
      obtain ⟨u, r, l⟩ := hl j x v n2 e7 n3
      obtain ⟨c, c1, c2⟩ := n4 m s.heap u l
      refine ⟨u, r, .inr ⟨n5, c, c1, ?_⟩⟩
      obtain ⟨o, ho, hd⟩ := c2
      exact ⟨o, hk _ _ ho, hd⟩
  · intro x c e
    obtain ⟨v, o, ho, hd⟩ := I.cell x c (T.cells x c e)
    exact ⟨v, o, hk _ _ ho, hd⟩
  · exact I.hok.fresh (Nat.le_refl _)
  · exact fun x c e => I.freeC x c (T.cells x c e)
  · intro p hp
    exact absurd (show p ∈ ([] : List (Addr × Obj)) from hp) (by simp)
  · show (List.replicate own.length none ++ js.map fun j => (σ[j]?).getD none).length = N.length
    rw [List.length_append, List.length_replicate, List.length_map, T.len]
  · refine ⟨fun i d e => ?_, R.mem⟩
    unfold compG at e
    have hi : own.length ≤ i := by
      refine Nat.le_of_not_lt fun z => ?_
      rw [List.getElem?_append_left (by simpa using z), List.getElem?_replicate] at e
      split at e <;> cases e
    rw [List.getElem?_append_right (by simpa using hi), List.getElem?_map, List.length_replicate] at e
    cases q : js[i - own.length]? with
    | none => rw [q] at e; cases e
    | some j =>
      rw [q] at e
      have e4 : (G[j]?).getD none = some d := by simpa using e
      have e7 : G[j]? = some (some d) := by
        cases z : G[j]? with
        | none => rw [z] at e4; cases e4
        | some w => rw [z] at e4; exact congrArg some e4
      obtain ⟨v, v1, v2⟩ := R.loc j d e7
      refine ⟨v, ?_, v2⟩
      show (List.replicate own.length none ++ js.map fun j => (σ[j]?).getD none)[i]? = some (some v)
      rw [List.getElem?_append_right (by simpa using hi), List.getElem?_map, List.length_replicate, q]
      show some ((σ[j]?).getD none) = some (some v)
      rw [v1]; rfl
def Ext (M M' : MH) : Prop := ∀ a o, M a = some o → M' a = some o
theorem mset_mset {M : MH} {a : Addr} {o u : MO} : mset (mset M a o) a u = mset M a u := by
  funext b; unfold mset; split <;> rfl
theorem ext_new {M : MH} {a : Addr} {o : MO} (h : M a = none) : Ext M (mset M a o) := fun b u e => mset_old h e
theorem MemOk.ext {K : PySem.W.Frag} {M M' : MH} {H : Hp} (m : MemOk K M' H) (e : Ext M M') : MemOk K M H := fun a o h => m a o (e a o h)
/-- behind a block -/
theorem Inv.unblock {pins : List (Addr × Obj)} {σ σc : St} {H3 H' : Hp} {s3 s' : Shared} {C : Addr} {h' : Heap} {fp : List Addr} (I3 : Inv X pins σ H3 s3) (hf : ∀ b ∈ fp, FpOk X pins H3 b) (I' : Inv (compCx X N scope cl C s3 H3 fp) [] σc H' s')
    (hC : C = s3.heap.objs.size) (hs : Heap.SameBut C s'.heap h') : Inv X pins σ H' { s' with heap := h' } := by
  have ne : ∀ b o, s3.heap.get? b = some o → b ≠ C := fun b o e => by rw [hC]; exact Nat.ne_of_lt (Heap.lt_size e)
  have B : Un (frs X.stack) fp H3 H' s3.heap s'.heap := I'.base
  have fC : H' C = none := I'.free
  refine I3.call' (ch := fp) I'.os ?_ ?_ I'.bare ?_
  · exact {
      keep := fun b o e n h1 h2 => (hs.2 b (ne b o e)).trans (B.keep b o e n h1 h2)
      slot := fun b o e n h1 h2 => let ⟨sl, q⟩ := B.slot b o e n h1 h2; ⟨sl, (hs.2 b (ne b o e)).trans q⟩
      free := B.free
      there := fun b o e h2 => let ⟨o', q⟩ := B.there b o e h2; ⟨o', (hs.2 b (ne b o e)).trans q⟩
      tups := B.tups
      frzs := B.frzs
      tbls := B.tbls }
  · intro b u e
    refine (I'.hok b u e).stay (fun c v hc q => (hs.2 c ?_).trans q) (fun _ q => q) fun _ _ q => q
    rintro rfl
    rcases hc with z | z
    · rw [← z, fC] at e; cases e
    · rw [fC] at z; cases z
  · intro b hb
    obtain ⟨h0, h1, h2, h3, h4, h5⟩ := hf b hb
    exact ⟨h3, h1, h4, h5⟩
/-- [elt for tg in iter if ..] whose parts leave the mutable objects as they are -/
theorem ev_comp {wi : TI} (T : CompOk X own js N scope cl) (hxe : X.xe = fun _ _ => False) (hc : X.calm = true) (hi : PI X tg iter wi) (f : D → D) (p : D → Bool)
    (h : ∀ σ H, KF X.K H → Rel X G M σ H → wi σ H fun J H1 => Grow H H1 ∧ ∃ (M1 : MH) (ds : List D), Rel X G M1 σ H1 ∧ Walks X.K M1 J H1 ds ∧ ds.length ≤ sizeLine ∧
      (∀ Y : Cx, (∃ C s H fp, Y = compCx X N scope cl C s H fp) → ∀ M', Ext M1 M' → ∀ d ∈ ds, GV Y (compG own js G) M' tg d fun G3 M3 => M3 = M' ∧ Sub (compG own js G) G3 ∧ TVs Y G3 M' ifs (fun k M4 => M4 = M' ∧ k = p d) ∧ (p d = true → EV Y G3 M' elt fun o M4 => M4 = M' ∧ o = f d)) ∧
      ∀ q, M1 q = none → Q (.ref q) (mset M1 q (.lst ((ds.filter p).map f))))
    (hs : ∀ x, foldedSetIterable iter X.env x = pure x := by intro _; rfl) : EV X G M (.ListComp elt [⟨tg, iter, ifs, 0⟩] scope pos) Q := by
  intro pins s σ H I R
  rw [eval_ListComp]
  refine wpAny_comprehension_free (use := none) rfl hs T.clos T.kind T.names (thn (hi pins s σ H _ I (h σ H (kf_of I) R)) fun v s1 h1 => thn h1 fun itv s2 h2 => ?_)
  obtain ⟨it, fp, tn, J, H2, e, I2, TT, st2, f2, g2, M1, ds, R2, walks, hsz, block, fin⟩ := h2
  subst e
  refine wpAny_newObj_type ?_ (by show 0 ≤ sizeLine; exact Nat.zero_le _)
  have hq : H2 s2.heap.objs.size = none := I2.hok.fresh (Nat.le_refl _)
  have I3 : Inv X pins σ (upd H2 s2.heap.objs.size (.lst [])) { s2 with heap := s2.heap.push { cls := .type "list", dict := none, data := .seq ([] : List Value).toArray } } :=
    I2.laid (t' := s2.toks) (fun b u e => Heap.get?_push_of_some _ e) (Nat.le_refl _) ⟨Nat.zero_le _, [], 0, .nil, Heap.get?_push_size _ rfl⟩
  have gq : Grow H2 (upd H2 s2.heap.objs.size (.lst [])) := grow_new hq
  have mq : M1 s2.heap.objs.size = none := R2.mem.fresh hq (kf_of I3)
  have R3 : Rel X G (mset M1 s2.heap.objs.size (.lst [])) σ (upd H2 s2.heap.objs.size (.lst [])) := R2.to gq (R2.mem.lay hq ⟨[], upd_same, isl_nil.mpr rfl⟩)
  have f3 : ∀ b ∈ fp, FpOk X pins (upd H2 s2.heap.objs.size (.lst [])) b := fun b hb => by
    refine ⟨?_, (f2 b hb).2⟩
    rw [upd_ne]
    · exact (f2 b hb).1
    · intro z
      obtain ⟨o, e, _⟩ := TT.obj _ _ st2 b hb
      rw [z] at e
      exact absurd (Heap.lt_size e) (Nat.lt_irrefl _)
  have ft : ∀ b ∈ fp, ∃ o, (s2.heap.push { cls := .type "list", dict := none, data := .seq ([] : List Value).toArray }).get? b = some o := fun b hb => by
    obtain ⟨o, e, _⟩ := TT.obj _ _ st2 b hb
    exact ⟨o, Heap.get?_push_of_some _ e⟩
  have stq : tn 0 (s2.heap.push { cls := .type "list", dict := none, data := .seq ([] : List Value).toArray }) := TT.keep _ _ _ st2 fun b hb o e => Heap.get?_push_of_some _ e
  generalize s2.heap.objs.size = q at hq I3 gq mq R3 f3 ⊢
  refine wpAny_newFunctionEnv (T.nocell) (by intro y hy; simp at hy) (fun h1 hns1 hsb1 => ?_) T.kind
  generalize hH3 : upd H2 q (.lst []) = H3 at I3 R3 f3 gq
  generalize hs3 : ({ s2 with heap := s2.heap.push { cls := .type "list", dict := none, data := .seq ([] : List Value).toArray } } : Shared) = s3 at I3 hns1 hsb1 ⊢
  have es3 : s3.heap = s2.heap.push { cls := .type "list", dict := none, data := .seq ([] : List Value).toArray } := by rw [← hs3]
  rw [← es3] at stq ft
  have hk1 : ∀ b o, s3.heap.get? b = some o → h1.get? b = some o := fun b o e => hsb1.extBut b o (Nat.ne_of_lt (Heap.lt_size e)) (Heap.get?_push_of_some _ e)
  obtain ⟨σc, Ic, Rc⟩ := comp_ok (tk := s3.toks + ([] : List (Str × Value)).length) T I3 f3 ft (by simpa using hns1) hk1 R3
  have stc : tn 0 h1 := TT.keep _ _ _ stq fun b hb o e => hk1 b o e
  have hC : ∃ C, C = s3.heap.objs.size := ⟨_, rfl⟩
  obtain ⟨C, hC⟩ := hC
  rw [← hC] at Ic Rc
  generalize hY : compCx X N scope cl C s3 H3 fp = Y at Ic Rc
  have blockY := block Y ⟨C, s3, H3, fp, hY.symm⟩
  have yA : Y.A = X.A := by rw [← hY]; rfl
  have yp : Y.prog = X.prog := by rw [← hY]; rfl
  have yw : Y.w = X.w := by rw [← hY]; rfl
  have yK : Y.K = X.K := by rw [← hY]; rfl
  have yc : Y.calm = true := by rw [← hY]; exact hc
  have yx : Y.xe = fun _ _ => False := by rw [← hY]; exact hxe
  have ye : Y.env = compEnvC scope cl C X.env := by rw [← hY]; rfl
  have ypn : Y.pn = [] := by rw [← hY]; rfl
  have yex : Y.ex = fp := by rw [← hY]; rfl
  have fpY : ∀ {H' : Hp}, (∀ b ∈ fp, H' b = none) → ∀ b ∈ fp, FpOk Y [] H' b := fun {H'} hn b hb => by
    have o1 := Ic.ok.exf b (by rw [yex]; exact hb)
    refine ⟨hn b hb, o1.1, Ic.ok.exfs b (by rw [yex]; exact hb), .inl (by rw [yex]; exact hb), o1.2, fun p hp => ?_⟩
    rw [ypn] at hp; exact absurd hp (by simp)
  have loop : ∀ s4 : Shared, s4 = { s3 with heap := h1, toks := s3.toks + ([] : List (Str × Value)).length } →
      codeAny (model X.prog X.w) X.A (.compLoop (.ListComp elt [⟨tg, iter, ifs, 0⟩] scope pos) 0 (.ref it) (.ref q) (compEnvC scope cl C X.env)) (compPost (model X.prog X.w) X.A X.xe none (EPD X pins σ G H Q) (.ref q) C) s4 := by
    rintro s4 rfl
    refine compLoop_own (fun m s' => ∃ i σ' H', Inv Y [] σ' H' s' ∧ Grow H3 H' ∧ Rel Y (compG own js G) (mset M1 q (.lst (((ds.take i).filter p).map f))) σ' H' ∧ tn i s'.heap ∧ (∀ b ∈ fp, H' b = none) ∧ i ≤ ds.length ∧ m = ds.length - i) ?_ ds.length
      ⟨0, σc, H3, Ic, Grow.refl _, by rw [List.take_zero]; exact Rc, stc, fun b hb => (f3 b hb).1, Nat.zero_le _, rfl⟩
    rintro m s5 ⟨i, σ5, H5, I5, g5, R5, st5, fr5, hin, rfl⟩
    have R5m : MemOk X.K M1 H5 := by rw [← yK]; exact R5.mem.ext (ext_new mq)
    obtain ⟨wstop, wgo⟩ := walks H5 (gq.trans g5) R5m
    by_cases hlt : i < ds.length
    · obtain ⟨go, yld⟩ := wgo i hlt
      have it5 := TT.item Y yp yw yK yc i [] s5 σ5 H5 (fun _ _ => False) I5 (fpY fr5) st5 go
      rw [yA] at it5
      refine thn it5 fun r s6 ⟨u, hr, h6⟩ => ?_
      subst hr
      refine thn h6 fun _ s7 ⟨x, H7, I7, r7, y7, st7, fr7⟩ => ?_
      obtain ⟨g7, keep7, m7, d, ed, i7⟩ := yld x H7 y7
      have I7' := I7.pinned (fpY fr7) (TT.obj _ _ st7)
      have hd : d ∈ ds := List.mem_of_getElem? ed
      have R7 : Rel Y (compG own js G) (mset M1 q (.lst (((ds.take i).filter p).map f))) σ5 H7 := R5.to g7 fun a o e => (R5.mem a o e).stay g7 fun u h => keep7 _ _ h
      have gv := blockY _ (ext_new mq) d hd _ s7 σ5 H7 x u I7' R7 r7 i7
      rw [yp, yw, yA, yx, ye] at gv
      refine thn gv fun _ s8 ⟨σ8, H8, G8, M8, I8, g8, R8, e8, sub8, tests, elt8⟩ => ?_
      subst e8
      have tr := tvs_run tests I8 R8
      rw [yp, yw, yA, yx, ye] at tr
      refine thn tr fun ok s9 ⟨H9, M9, I9, g9, R9, e9, ek⟩ => ?_
      subst e9
      have back : ∀ {σ' : St} {H' : Hp} {s' : Shared}, Inv Y ([] ++ pinsAt fp s7.heap) σ' H' s' → tn (i + 1) s'.heap ∧ ∀ b ∈ fp, H' b = none := fun {σ' H' s'} I' => by
        refine ⟨TT.keep _ _ _ st7 fun b hb o e => (I'.pin (b, o) (List.mem_append_right _ (List.mem_append_right _ (mem_pinsAt hb e)))).1, fun b hb => ?_⟩
        obtain ⟨o, e, _⟩ := TT.obj _ _ st7 b hb
        exact (I'.pin (b, o) (List.mem_append_right _ (List.mem_append_right _ (mem_pinsAt hb e)))).2.1
      have tk : (ds.take (i + 1)).filter p = (ds.take i).filter p ++ (if p d then [d] else []) := take_succ_filter p ds i d ed
      cases hpd : p d with
      | false =>
        rw [hpd] at ek
        subst ek
        rw [if_neg (by decide)]
        obtain ⟨t1, t2⟩ := back I9
        refine ⟨ds.length - (i + 1), by omega, i + 1, σ8, H9, I9.unpinned, ((g5.trans g7).trans g8).trans g9, ?_, t1, t2, hlt, rfl⟩
        rw [tk, hpd, if_neg (by decide), List.append_nil]
        exact R9.sub sub8
      | true =>
        rw [hpd] at ek
        subst ek
        rw [if_pos rfl]
        have ev := elt8 hpd _ s9 σ8 H9 I9 R9
        rw [yp, yw, yA, yx, ye] at ev
        refine thn ev fun u9 s10 ⟨v10, H10, o10, M10, I10, r10, g10, i10, R10, e10, eo⟩ => ?_
        subst e10; subst eo
        obtain ⟨xs, hx, hxi⟩ := R10.mem q _ mset_same
        have hlen := hxi.len
        have hl2 : (((ds.take i).filter p).map f).length ≤ i := by
          rw [List.length_map]
          exact Nat.le_trans (List.length_filter_le _ _) (by rw [List.length_take]; omega)
        have ap := mt_append (X := Y) _ s10 σ8 H10 (.ref q) [v10] (.ref q) [u9] (fun _ H' => H' = upd H10 q (.lst (xs ++ [v10]))) I10 rfl (.cons r10 .nil) ⟨q, xs, v10, rfl, rfl, hx, by omega, rfl⟩
        rw [yp, yw, yA, yx] at ap
        refine thn ap fun _ s11 ⟨_, H11, I11, _, e11⟩ => ?_
        subst e11
        obtain ⟨t1, t2⟩ := back I11
        have nt : ∀ ys, H10 q ≠ some (.tup ys) := fun ys z => by rw [hx] at z; cases z
        have ga : Grow H10 (upd H10 q (.lst (xs ++ [v10]))) := grow_upd nt
        refine ⟨ds.length - (i + 1), by omega, i + 1, σ8, _, I11.unpinned, ((((g5.trans g7).trans g8).trans g9).trans g10).trans ga, ?_, t1, t2, hlt, rfl⟩
        rw [tk, hpd, if_pos rfl, List.map_append]
        have mm := R10.mem.put (p := q) (o := .lst (xs ++ [v10])) (u := .lst (((ds.take i).filter p).map f ++ [f d])) nt ⟨_, upd_same, (hxi.grow ga).app (isl_cons.mpr ⟨v10, [], rfl, Is.grow ga _ _ i10, isl_nil.mpr rfl⟩)⟩
        rw [mset_mset] at mm
        exact (R10.to ga mm).sub sub8
    · have ei : i = ds.length := by omega
      subst ei
      have dn := TT.done Y yp yw yK yc ds.length [] s5 σ5 H5 (fun _ _ => False) I5 (fpY fr5) st5 (wstop _ rfl)
      rw [yA] at dn
      refine thn dn fun r s6 ⟨hr, I6⟩ => ?_
      subst hr
      obtain ⟨mm, hmm, _⟩ := I6.loc
      rw [ye] at hmm
      refine ⟨mm, hmm, fun h' hsb => ?_⟩
      have I6' : Inv (compCx X N scope cl C s3 H3 fp) [] σ5 H5 s6 := by rw [hY]; exact I6
      have IX := Inv.unblock I3 f3 I6' hC hsb
      refine ⟨.ref q, H5, .ref q, _, IX, rfl, (g2.trans gq).trans g5, is_ref.mpr rfl, R3.to g5 (by rw [← yK]; exact R5.mem), ?_⟩
      rw [List.take_length]
      exact fin q mq
  have fin0 := codeAny_compStart_list (R := compPost (model X.prog X.w) X.A X.xe none (EPD X pins σ G H Q) (.ref q) C) (loop _ rfl) (TT.self _ 0 _ _ _ stc (loop _ rfl))
  rw [hC] at fin0
  exact fin0
end
end D3

namespace D3
open PySem PySem.Spec PyProof.Rows L2
section
variable {X : Cx} {G : Ga} {M : MH} {elt tg iter : Expr} {ifs : List Expr} {scope : Scope} {pos : Pos} {Q : DK} {own : List Str} {js : List Nat} {N : List Str} {cl : List (Str × Addr)}
end
end D3

set_option Elab.async false
set_option linter.all false
set_option maxRecDepth 100000
set_option maxHeartbeats 4000000
namespace D3
open PySem PySem.Spec PyProof.Rows L2

theorem bits_weight (n : Int) : Builtin.Int.intBits n = PySem.W.WData.weight (.int n) := by
  unfold Builtin.Int.intBits PySem.W.WData.weight
  rfl
theorem bits_of_all : ∀ (ns : List Int) (k : Nat), PySem.W.WData.weightAll (ns.map PySem.W.WData.int) ≤ k → ∀ n ∈ ns, Builtin.Int.intBits n ≤ k
  | [], _, _, n, hn => nomatch hn
  | m :: ns, k, h, n, hn => by
    rw [List.map_cons] at h
    have h' : PySem.W.WData.weight (.int m) + 1 + PySem.W.WData.weightAll (ns.map PySem.W.WData.int) ≤ k := by
      unfold PySem.W.WData.weightAll at h
      exact h
    rcases List.mem_cons.mp hn with e | hn
    · subst e
      rw [bits_weight]
      omega
    · exact bits_of_all ns k (by omega) n hn
theorem bits_of_lay {ns : List Int} (h : PySem.W.WData.layableAll [PySem.W.WData.list (ns.map PySem.W.WData.int)] = true) : ∀ n ∈ ns, Builtin.Int.intBits n ≤ 2097152 := by
  unfold PySem.W.WData.layableAll at h
  rw [List.all_cons, Bool.and_eq_true] at h
  have h1 := h.1
  unfold PySem.W.WData.layable at h1
  rw [Bool.and_eq_true] at h1
  have h2 := of_decide_eq_true h1.2
  have h3 : PySem.W.WData.weightAll (ns.map PySem.W.WData.int) ≤ 2 ^ 20 := by
    unfold PySem.W.WData.weight at h2
    exact h2
  intro n hn
  have := bits_of_all ns _ h3 n hn
  omega
end D3
namespace D3
open PySem PySem.W PySem.Calls PyProof.Rows
theorem attach_callB {l : PySem.W.OpenLaw} {n : Nat} {q : Program} {loose : List Str} {XP : (Str → Option Value) → Heap → Prop} {YP : World → Heap → Prop} {d : DefRec}
    (hn : l.most = some n) (hdf : d.params.defaults = [])
    (call : ∀ (w : World) (s₀ s₁ : Shared) (mg mb : Str → Option Value) (fa : Addr) (o : Obj) (pm cd doc : Value) (a : Addr) (vs : List Value) (ns : List Int),
      Ground q loose [] XP w s₀ mg mb s₁.heap → YP w s₁.heap →
      s₁.heap.get? fa = some o → o.data = .func (docDef d.name d.params d.body d.scope pm cd doc) → s₁.heap.CodeRec cd d.name → mg d.name = some (.ref fa) →
      s₁.heap.get? a = some { cls := .type "list", data := .seq vs.toArray } → IntsAre vs ns → ns.length ≤ n → (∀ n ∈ ns, Builtin.Int.intBits n ≤ 2097152) → s₁.gens = #[] →
      codeAny (model l.prog w) callerA (.call (.ref fa) ⟨[.ref a], []⟩) (fun r s' => r = .ok (.ret (.bool true)) ∧ OldK s₁.heap s'.heap ∧ s'.os = s₁.os ∧ AllBare s'.gens) s₁) :
    PySem.W.WalkO q loose XP YP l.row.toRowW d [] (fun f vs => PySem.call f vs) := by
  intro w s₀ s₁ mg mb G Y fa o pm cd doc dV kV ho hd hcd hD hmg hg args vals as hpre hlay hrd hwl hlo
  obtain rfl : dV = .none := Dflts.none hD hdf
  obtain rfl : kV = .none := Dflts.noKw hD
  obtain ⟨a, vs, ns, rfl, rfl, hobj, hints, hlen⟩ := Att.script_of hn hpre hwl
  refine enter_call (codeAny_mono (call w s₀ s₁ mg mb fa o pm cd doc a vs ns G Y ho (fd_plain hd) hcd hmg hobj hints hlen (bits_of_lay hlay) hg) fun r s' hq => ?_)
  obtain ⟨rfl, h2, h3, h4⟩ := hq
  exact ⟨.inl ⟨.bool true, .bool true, [], rfl, fun _ => rfl, .bool true, Att.post_true l _, fun _ => ⟨List.Pairwise.nil, fun _ hm => (nomatch hm)⟩⟩, h2, h3, h4⟩
end D3
namespace D3
open PySem PySem.Spec PyProof.Rows L2
/-- the law's promise by data -/
def LawSp (sp : SpD) : Prop := ∀ (l : Addr) (ns : List Int) (M : MH) (Q : DK), M l = some (.ro (ns.map D.int)) → ns.length ≤ 63 → (∀ n ∈ ns, Builtin.Int.intBits n ≤ 2097152) → (∀ M', Q (.bl true) M') → sp [.ref l] M Q
theorem walk_D {l : PySem.W.OpenLaw} {k : Nat} {q : Program} {loose : List Str} {XP : (Str → Option Value) → Heap → Prop} {YP : World → Heap → Prop} {d : DefRec} {K : Params → PySem.W.Frag} {sp : SpD} {x : Str}
    (hn : l.most = some 63) (hdf : d.params.defaults = []) (hr : Room k callerA) (hs : LawSp sp)
    (hY : ∀ (w : World) (h : Heap), YP w h → (K w.params).In h)
    (F : ∀ (w : World) (mg : Str → Option Value) (fa : Addr) (h : Heap), (K w.params).In h → h.Ns mainGlobals mg → mg d.name = some (.ref fa) →
      ∃ fd : FuncData, (∀ (s : Shared) (u : Value), BindsTo s fd ⟨[u], []⟩ [(x, u)]) ∧
        ∀ base : Heap, (K w.params).In base → base.Ns mainGlobals mg → FnOk l.prog w (K w.params) mg base CX0 k fa fd [x] (liftSp (K w.params) sp)) :
    PySem.W.WalkO q loose XP YP l.row.toRowW d [] (fun f vs => PySem.call f vs) := by
  refine attach_callB hn hdf fun w s₀ s₁ mg mb fa o pm cd doc a vs ns G Y ho hd hcd hmg hobj hints hlen hbits hg => ?_
  have KX := hY w _ Y
  obtain ⟨fd, hb, hF⟩ := F w mg fa _ KX G.T.g hmg
  refine law_call KX G.T.g G.T.b G.T.builtins G.T.nolimit hg hobj hints (Nat.le_trans hlen (by decide)) hr hF hb (fun H hO hS => ?_) fun H e s' z => z
  refine ⟨[.ref a], fun b => if b = a then some (.ro (ns.map D.int)) else none, fun d M' => d = .bl true, isl_cons.mpr ⟨.ref a, [], rfl, is_ref.mpr rfl, isl_nil.mpr rfl⟩, fun b o e => ?_, hs a ns _ _ (if_pos rfl) hlen hbits (fun _ => rfl), fun v H' d M' _ i _ e => ?_⟩
  · have e : (if b = a then some (MO.ro (ns.map D.int)) else none) = some o := e
    by_cases z : b = a
    · rw [if_pos z] at e
      cases e
      subst z
      exact ⟨_, hS, IsL.ints⟩
    · rw [if_neg z] at e; cases e
  · subst e
    rw [is_bl] at i
    exact i
end D3

set_option Elab.async false
set_option linter.all false
set_option maxRecDepth 100000
set_option maxHeartbeats 4000000
namespace D3
open PySem PySem.Spec PyProof.Rows L2

/-! ### == of data, tuples within tuples -/
mutual
def pd : D → PyData
  | .non => .none
  | .bl b => .bool b
  | .int i => .int i
  | .str x => .str x
  | .ty _ => .none
  | .tup ds => .tuple (pdL ds)
  | .ref _ => .none
def pdL : List D → List PyData
  | [] => []
  | d :: ds => pd d :: pdL ds
end
mutual
def imm : D → Bool
  | .non => true
  | .bl _ => true
  | .int _ => true
  | .str x => PyData.strOk x
  | .ty _ => false
  | .tup ds => immL ds
  | .ref _ => false
def immL : List D → Bool
  | [] => true
  | d :: ds => imm d && immL ds
end
section
variable {X : Cx} {pins : List (Addr × Obj)} {σ : St} {H : Hp} {s : Shared}
mutual
theorem reads_of (I : L2.Inv X pins σ H s) : ∀ (d : D) (v : V) (u : Value), Is H d v → RelV v u → imm d = true → ∃ as, Reads s.heap u (pd d) as
  | .non, v, u, i, r, _ => by
    rw [is_non] at i; subst i; cases r
    unfold pd; exact ⟨_, .none⟩
  | .bl b, v, u, i, r, _ => by
    rw [is_bl] at i; subst i; cases r
    unfold pd; exact ⟨_, .bool b⟩
  | .int b, v, u, i, r, _ => by
    rw [is_int] at i; subst i; obtain ⟨t, rfl⟩ := r
    unfold pd; exact ⟨_, .int b t⟩
  | .str b, v, u, i, r, _ => by
    rw [is_str] at i; subst i; obtain ⟨t, rfl⟩ := r
    unfold pd; exact ⟨_, .str b t⟩
  | .ty _, _, _, _, _, h => by unfold imm at h; cases h
  | .ref _, _, _, _, _, h => by unfold imm at h; cases h
  | .tup ds, v, u, i, r, h => by
    rw [is_tup] at i
    obtain ⟨a, xs, rfl, h1, h2⟩ := i
    cases r
    unfold imm at h
    obtain ⟨_, its, rv, o, ho, hc, n, hd⟩ := I.hok a _ h1
    obtain ⟨as, q⟩ := readsAll_of I ds xs its h2 rv h
    unfold pd
    exact ⟨as, .tuple ho hc hd (by simpa using q)⟩
theorem readsAll_of (I : L2.Inv X pins σ H s) : ∀ (ds : List D) (vs : List V) (us : List Value), IsL H ds vs → Vals vs us → immL ds = true → ∃ as, ReadsAll s.heap us (pdL ds) as
  | [], vs, us, i, r, _ => by
    rw [isl_nil] at i; subst i; cases r
    unfold pdL; exact ⟨_, .nil⟩
  | d :: ds, vs, us, i, r, h => by
    rw [isl_cons] at i
    obtain ⟨x, xs, rfl, i1, i2⟩ := i
    unfold immL at h
    rw [Bool.and_eq_true] at h
    cases r with
    | cons r1 r2 =>
      obtain ⟨as, q1⟩ := reads_of I d x _ i1 r1 h.1
      obtain ⟨bs, q2⟩ := readsAll_of I ds xs _ i2 r2 h.2
      unfold pdL
      exact ⟨_, .cons q1 q2⟩
end
mutual
theorem canLay_imm : ∀ d : D, imm d = true → (pd d).canLay0 = true
  | .non, _ => by simp only [pd, PyData.canLay0]
  | .bl _, _ => by simp only [pd, PyData.canLay0]
  | .int _, _ => by simp only [pd, PyData.canLay0]
  | .str x, h => by
    unfold imm at h
    simp only [pd, PyData.canLay0]; exact h
  | .ty _, h => by unfold imm at h; cases h
  | .ref _, h => by unfold imm at h; cases h
  | .tup ds, h => by
    unfold imm at h
    simp only [pd, PyData.canLay0]
    exact canLayL_imm ds h
theorem canLayL_imm : ∀ ds : List D, immL ds = true → PyData.canLayAll0 (pdL ds) = true
  | [], _ => by simp only [pdL, PyData.canLayAll0]
  | d :: ds, h => by
    unfold immL at h
    rw [Bool.and_eq_true] at h
    simp only [pdL, PyData.canLayAll0, canLay_imm d h.1, canLayL_imm ds h.2, Bool.and_self]
end
end
section
variable {X : Cx} {G : Ga} {M : MH} {a b e : Expr} {pos : Pos} {Q : DK}
/-- a comparison as a test, by its value -/
theorem tv_cval {op : CmpOp} {Qb : Bool → MH → Prop} (hm : behindInMarks op b = false)
    (h : ∀ (pins : List (Addr × Obj)) (s : Shared) (σ : St) (H : Hp), L2.Inv X pins σ H s → Rel X G M σ H → wpAny (model X.prog X.w) X.A (eval a X.env) (fun v s1 => wpAny (model X.prog X.w) X.A (eval b X.env) (fun u s2 => wpAny (model X.prog X.w) X.A (compareOp op v u) (EPD X pins σ G H fun d M' => ∃ k, d = .bl k ∧ Qb k M') X.xe s2) X.xe s1) X.xe s) : TV X G M (.Compare a [op] [b] pos) Qb := by
  intro pins s σ H I R
  refine wpAny_isTrue_Compare1 (thn (h pins s σ H I R) fun v s1 h1 => thn h1 fun u s2 h2 => thn h2 fun w s3 ⟨z, H3, d, M3, I3, r3, g3, i3, R3, k, e, q⟩ => ?_) hm
  subst e
  rw [is_bl] at i3; subst i3
  cases r3
  exact wpAny_truthy_bool ⟨H3, M3, I3, g3, R3, q⟩
/-! ### xs[i] = v -/
theorem IsL.set {H : Hp} : ∀ {ds : List D} {vs : List V} (j : Nat) {d : D} {v : V}, IsL H ds vs → Is H d v → IsL H (ds.set j d) (vs.set j v)
  | [], vs, j, d, v, h, _ => by rw [isl_nil] at h; subst h; rw [List.set_nil, List.set_nil, isl_nil]
  | d' :: ds, vs, 0, d, v, h, k => by
    rw [isl_cons] at h
    obtain ⟨x, r, rfl, h1, h2⟩ := h
    rw [List.set_cons_zero, List.set_cons_zero, isl_cons]
    exact ⟨v, r, rfl, k, h2⟩
  | d' :: ds, vs, j + 1, d, v, h, k => by
    rw [isl_cons] at h
    obtain ⟨x, r, rfl, h1, h2⟩ := h
    rw [List.set_cons_succ, List.set_cons_succ, isl_cons]
    exact ⟨x, r.set j v, rfl, h1, h2.set j k⟩
/-- int(x) of an int or a truth -/
theorem bootIntT : bootBuiltins "int" = some (.type "int") := by decide +kernel
theorem ev_intC {p : Pos} (hm : X.mg "int" = none) (h : AV X G M [e] fun ds M1 => (∃ i, ds = [.int i] ∧ Q (.int i) M1) ∨ ∃ k : Bool, ds = [.bl k] ∧ Q (.int (if k then 1 else 0)) M1) (hg : Gl X "int" := by rfl)
    (he : starEach [e] X.env = (false, eval e X.env) :: starEach [] X.env := by rfl) (hpl : (backTo pos (starEach ([] : List Expr) X.env)).any (·.1) = false := by rfl) : EV X G M (.Call (.Name "int" p) [e] [] pos) Q :=
  ev_callTy call_int1 hm bootIntT (h.mono fun ds M1 hq => fun H xs kf hx m => by
    rcases hq with ⟨i, rfl, q⟩ | ⟨k, rfl, q⟩
    · obtain ⟨v, rfl, hv⟩ := isl1 hx
      rw [is_int] at hv; subst hv
      exact .inl ⟨i, rfl, fun _ => ⟨Grow.refl _, _, M1, is_int.mpr rfl, m, q⟩⟩
    · obtain ⟨v, rfl, hv⟩ := isl1 hx
      rw [is_bl] at hv; subst hv
      exact .inr ⟨k, rfl, fun _ => ⟨Grow.refl _, _, M1, is_int.mpr rfl, m, q⟩⟩) hg (by decide) (by decide) he hpl
end
end D3

set_option Elab.async false
set_option linter.all false
set_option maxRecDepth 100000
set_option maxHeartbeats 4000000
namespace D3
open PySem PySem.Spec PyProof.Rows L2
/-! ### leaves by name: what an operation asks of the data that it meets -/
def SubL (da db : D) (M : MH) (Q : DK) : Prop := match da, db with
  | .int i, .int j => Q (.int (i - j)) M
  | _, _ => False
def MulL (da db : D) (M : MH) (Q : DK) : Prop := match da, db with
  | .int i, .int j => IntMulOk i j ∧ Q (.int (i * j)) M
  | _, _ => False
def DivL (da db : D) (M : MH) (Q : DK) : Prop := match da, db with
  | .int i, .int j => CDivB i j ∧ Q (.int (i.fdiv j)) M
  | _, _ => False
def ModL (da db : D) (M : MH) (Q : DK) : Prop := match da, db with
  | .int i, .int j => j ≠ 0 ∧ Q (.int (i.fmod j)) M
  | _, _ => False
def PowL (da db : D) (M : MH) (Q : DK) : Prop := match da, db with
  | .int i, .int j => CPow i j ∧ Q (.int (i ^ j.toNat)) M
  | _, _ => False
def NegL (da : D) (M : MH) (Q : DK) : Prop := match da with
  | .int i => Q (.int (-i)) M
  | _ => False
def CmpL (p : Int → Int → Bool) (da db : D) (M : MH) (Qb : Bool → MH → Prop) : Prop := match da, db with
  | .int i, .int j => Qb (p i j) M
  | _, _ => False
/-- == by what the two are -/
def eqB (da db : D) : Bool := match da, db with
  | .int i, .int j => decide (i = j)
  | .bl i, .bl j => decide (i = j)
  | .str i, .str j => decide (i = j)
  | _, _ => PyData.eqv (pd da) (pd db)
def EqOk (da db : D) : Prop := match da, db with
  | .int _, .int _ => True
  | .bl _, .bl _ => True
  | .str _, .str _ => True
  | _, _ => imm da = true ∧ imm db = true ∧ (pd da).depth ≤ 60
def EqL (da db : D) (M : MH) (Qb : Bool → MH → Prop) : Prop := EqOk da db ∧ Qb (eqB da db) M
section
variable {X : Cx} {G : Ga} {M : MH} {a b c e : Expr} {es rest : List Expr} {pos : Pos} {Q : DK} {Qb : Bool → MH → Prop} {i j : Int}
theorem add_ii (q : Q (.int (i + j)) M) : AddD (.int i) (.int j) M Q := q
theorem add_ll {l k : Addr} {xs ys : List D} (h : M l = some (.lst xs)) (h' : M k = some (.lst ys)) (z : xs.length + ys.length ≤ sizeLine) (q : ∀ p, M p = none → Q (.ref p) (mset M p (.lst (xs ++ ys)))) : AddD (.ref l) (.ref k) M Q := ⟨xs, ys, h, h', z, q⟩
theorem sub_l (q : Q (.int (i - j)) M) : SubL (.int i) (.int j) M Q := q
theorem mul_l (c : IntMulOk i j) (q : Q (.int (i * j)) M) : MulL (.int i) (.int j) M Q := ⟨c, q⟩
theorem div_l (c : CDivB i j) (q : Q (.int (i.fdiv j)) M) : DivL (.int i) (.int j) M Q := ⟨c, q⟩
theorem mod_l (c : j ≠ 0) (q : Q (.int (i.fmod j)) M) : ModL (.int i) (.int j) M Q := ⟨c, q⟩
theorem pow_n {k : Int} (e : i ^ j.toNat = k) (c : CPow i j) (q : Q (.int k) M) : PowL (.int i) (.int j) M Q := ⟨c, by rw [e]; exact q⟩
theorem neg_l (q : Q (.int (-i)) M) : NegL (.int i) M Q := q
theorem cmp_l {p : Int → Int → Bool} (q : Qb (p i j) M) : CmpL p (.int i) (.int j) M Qb := q
theorem eq_ii (q : Qb (decide (i = j)) M) : EqL (.int i) (.int j) M Qb := ⟨trivial, q⟩
theorem eq_bb {i j : Bool} (q : Qb (decide (i = j)) M) : EqL (.bl i) (.bl j) M Qb := ⟨trivial, q⟩
theorem eq_ss {i j : Str} (q : Qb (decide (i = j)) M) : EqL (.str i) (.str j) M Qb := ⟨trivial, q⟩
theorem ix_tl {ds : List D} {d : D} (e : atI ds i = some d) (q : Q d M) : IxD (.tup ds) i M Q := ⟨d, e, q⟩
theorem ix_ll {l : Addr} {ds : List D} {d : D} (h : M l = some (.lst ds)) (e : atI ds i = some d) (q : Q d M) : IxD (.ref l) i M Q := .inl ⟨ds, d, h, e, q⟩
theorem ix_rl {l : Addr} {ds : List D} {d : D} (h : M l = some (.ro ds)) (e : atI ds i = some d) (q : Q d M) : IxD (.ref l) i M Q := .inr ⟨ds, d, h, e, q⟩
theorem SubL.ex {da db : D} (h : SubL da db M Q) : ∃ i j, da = .int i ∧ db = .int j ∧ Q (.int (i - j)) M := by
  unfold SubL at h; split at h
  · exact ⟨_, _, rfl, rfl, h⟩
  · exact h.elim
theorem MulL.ex {da db : D} (h : MulL da db M Q) : ∃ i j, da = .int i ∧ db = .int j ∧ IntMulOk i j ∧ Q (.int (i * j)) M := by
  unfold MulL at h; split at h
  · exact ⟨_, _, rfl, rfl, h⟩
  · exact h.elim
theorem DivL.ex {da db : D} (h : DivL da db M Q) : ∃ i j, da = .int i ∧ db = .int j ∧ CDivB i j ∧ Q (.int (i.fdiv j)) M := by
  unfold DivL at h; split at h
  · exact ⟨_, _, rfl, rfl, h⟩
  · exact h.elim
theorem ModL.ex {da db : D} (h : ModL da db M Q) : ∃ i j, da = .int i ∧ db = .int j ∧ j ≠ 0 ∧ Q (.int (i.fmod j)) M := by
  unfold ModL at h; split at h
  · exact ⟨_, _, rfl, rfl, h⟩
  · exact h.elim
theorem PowL.ex {da db : D} (h : PowL da db M Q) : ∃ i j, da = .int i ∧ db = .int j ∧ CPow i j ∧ Q (.int (i ^ j.toNat)) M := by
  unfold PowL at h; split at h
  · exact ⟨_, _, rfl, rfl, h⟩
  · exact h.elim
theorem NegL.ex {da : D} (h : NegL da M Q) : ∃ i, da = .int i ∧ Q (.int (-i)) M := by
  unfold NegL at h; split at h
  · exact ⟨_, rfl, h⟩
  · exact h.elim
theorem CmpL.ex {p : Int → Int → Bool} {da db : D} (h : CmpL p da db M Qb) : ∃ i j, da = .int i ∧ db = .int j ∧ Qb (p i j) M := by
  unfold CmpL at h; split at h
  · exact ⟨_, _, rfl, rfl, h⟩
  · exact h.elim
theorem l_sub (h : EV X G M a fun da Ma => EV X G Ma b fun db Mb => SubL da db Mb Q) : EV X G M (.BinOp a .Sub b pos) Q := ev_sub (h.mono fun _ _ h1 => h1.mono fun _ _ h2 => h2.ex)
theorem l_mul (h : EV X G M a fun da Ma => EV X G Ma b fun db Mb => MulL da db Mb Q) : EV X G M (.BinOp a .Mult b pos) Q := ev_mul (h.mono fun _ _ h1 => h1.mono fun _ _ h2 => h2.ex)
theorem l_fdiv (h : EV X G M a fun da Ma => EV X G Ma b fun db Mb => DivL da db Mb Q) : EV X G M (.BinOp a .FloorDiv b pos) Q := ev_fdiv (h.mono fun _ _ h1 => h1.mono fun _ _ h2 => h2.ex)
theorem l_mod (h : EV X G M a fun da Ma => EV X G Ma b fun db Mb => ModL da db Mb Q) : EV X G M (.BinOp a .Mod b pos) Q := ev_mod (h.mono fun _ _ h1 => h1.mono fun _ _ h2 => h2.ex)
theorem l_pow (h : EV X G M a fun da Ma => EV X G Ma b fun db Mb => PowL da db Mb Q) : EV X G M (.BinOp a .Pow b pos) Q := ev_pow (h.mono fun _ _ h1 => h1.mono fun _ _ h2 => h2.ex)
theorem l_neg (h : EV X G M a fun da Ma => NegL da Ma Q) : EV X G M (.UnaryOp .USub a pos) Q := ev_neg (h.mono fun _ _ h1 => h1.ex)
theorem l_lt (h : EV X G M a fun da Ma => EV X G Ma b fun db Mb => CmpL (fun i j => decide (i < j)) da db Mb fun k M' => Q (.bl k) M') : EV X G M (.Compare a [.Lt] [b] pos) Q := ev_lt (h.mono fun _ _ h1 => h1.mono fun _ _ h2 => h2.ex)
theorem l_le (h : EV X G M a fun da Ma => EV X G Ma b fun db Mb => CmpL (fun i j => decide (i ≤ j)) da db Mb fun k M' => Q (.bl k) M') : EV X G M (.Compare a [.LtE] [b] pos) Q := ev_le (h.mono fun _ _ h1 => h1.mono fun _ _ h2 => h2.ex)
theorem l_gt (h : EV X G M a fun da Ma => EV X G Ma b fun db Mb => CmpL (fun i j => decide (j < i)) da db Mb fun k M' => Q (.bl k) M') : EV X G M (.Compare a [.Gt] [b] pos) Q := ev_gt (h.mono fun _ _ h1 => h1.mono fun _ _ h2 => h2.ex)
theorem l_ge (h : EV X G M a fun da Ma => EV X G Ma b fun db Mb => CmpL (fun i j => decide (j ≤ i)) da db Mb fun k M' => Q (.bl k) M') : EV X G M (.Compare a [.GtE] [b] pos) Q := ev_ge (h.mono fun _ _ h1 => h1.mono fun _ _ h2 => h2.ex)
theorem lt_lt (h : EV X G M a fun da Ma => EV X G Ma b fun db Mb => CmpL (fun i j => decide (i < j)) da db Mb Qb) : TV X G M (.Compare a [.Lt] [b] pos) Qb := tv_lt (h.mono fun _ _ h1 => h1.mono fun _ _ h2 => h2.ex)
theorem lt_le (h : EV X G M a fun da Ma => EV X G Ma b fun db Mb => CmpL (fun i j => decide (i ≤ j)) da db Mb Qb) : TV X G M (.Compare a [.LtE] [b] pos) Qb := tv_le (h.mono fun _ _ h1 => h1.mono fun _ _ h2 => h2.ex)
theorem lt_gt (h : EV X G M a fun da Ma => EV X G Ma b fun db Mb => CmpL (fun i j => decide (j < i)) da db Mb Qb) : TV X G M (.Compare a [.Gt] [b] pos) Qb := tv_gt (h.mono fun _ _ h1 => h1.mono fun _ _ h2 => h2.ex)
theorem lt_ge (h : EV X G M a fun da Ma => EV X G Ma b fun db Mb => CmpL (fun i j => decide (j ≤ i)) da db Mb Qb) : TV X G M (.Compare a [.GtE] [b] pos) Qb := tv_ge (h.mono fun _ _ h1 => h1.mono fun _ _ h2 => h2.ex)
/-- the two ways of == -/
theorem eqL_cases {da db : D} (h : EqL da db M Qb) : (∃ k, EqD da db k ∧ Qb k M) ∨ (imm da = true ∧ imm db = true ∧ (pd da).depth ≤ 60 ∧ Qb (PyData.eqv (pd da) (pd db)) M) := by
  obtain ⟨h, q⟩ := h
  unfold EqOk at h
  unfold eqB at q
  split at h
  · exact .inl ⟨_, rfl, q⟩
  · exact .inl ⟨_, rfl, q⟩
  · exact .inl ⟨_, rfl, q⟩
  · rename_i h1 h2 h3
    split at q
    · exact absurd rfl (fun z => h1 _ _ rfl z)
    · exact absurd rfl (fun z => h2 _ _ rfl z)
    · exact absurd rfl (fun z => h3 _ _ rfl z)
    · exact .inr ⟨h.1, h.2.1, h.2.2, q⟩
theorem eqL_run {neg : Bool} {op : CmpOp} (ho : op = if neg then .NotEq else .Eq) (hu : X.A.units + 64 < cLine) {pins : List (Addr × Obj)} {σ : St} {H : Hp} {s : Shared} {da db : D} {x y : V} {v u : Value} (I : L2.Inv X pins σ H s) (R : Rel X G M σ H) (i1 : Is H da x) (i2 : Is H db y) (r1 : RelV x v) (r2 : RelV y u)
    (h : EqL da db M fun k M' => Q (.bl (if neg then !k else k)) M') : wpAny (model X.prog X.w) X.A (compareOp op v u) (EPD X pins σ G H Q) X.xe s := by
  subst ho
  rcases eqL_cases h with ⟨k, e1, q⟩ | ⟨m1, m2, hd, q⟩
  · obtain ⟨h2, h3⟩ := eqD_val e1 i1 i2
    cases neg with
    | false =>
      refine thn (op_eq pins s σ H x y v u (fun z H3 => z = .bl (decide (x = y)) ∧ H3 = H) I r1 r2 ⟨h2, rfl, rfl⟩) fun w s3 hw => ?_
      obtain ⟨z, H3, I3, r3, e3, e4⟩ := hw
      subst e3; subst e4
      exact ⟨_, H3, .bl k, M, I3, r3, Grow.refl _, is_bl.mpr (by rw [h3]), R, q⟩
    | true =>
      refine thn (op_ne pins s σ H x y v u (fun z H3 => z = .bl (!decide (x = y)) ∧ H3 = H) I r1 r2 ⟨h2, rfl, rfl⟩) fun w s3 hw => ?_
      obtain ⟨z, H3, I3, r3, e3, e4⟩ := hw
      subst e3; subst e4
      exact ⟨_, H3, .bl (!k), M, I3, r3, Grow.refl _, is_bl.mpr (by rw [h3]), R, q⟩
  · obtain ⟨as, ra⟩ := reads_of I da x v i1 r1 m1
    obtain ⟨bs, rb⟩ := reads_of I db y u i2 r2 m2
    have hmin : min (pd da).depth (pd db).depth ≤ (pd da).depth := Nat.min_le_left _ _
    cases neg with
    | false => exact PySem.SeqAt.compareEq_reads ra rb (canLay_imm _ m1) (canLay_imm _ m2) (by omega) ⟨.bl _, H, .bl _, M, I, rfl, Grow.refl _, is_bl.mpr rfl, R, q⟩
    | true => exact PySem.SeqAt.compareNe_reads ra rb (canLay_imm _ m1) (canLay_imm _ m2) (by omega) ⟨.bl _, H, .bl _, M, I, rfl, Grow.refl _, is_bl.mpr rfl, R, q⟩
theorem l_eq (hu : X.A.units + 64 < cLine) (h : EV X G M a fun da Ma => EV X G Ma b fun db Mb => EqL da db Mb fun k M' => Q (.bl k) M') : EV X G M (.Compare a [.Eq] [b] pos) Q := by
  intro pins s σ H I R
  refine wpAny_Compare1 ?_ (nomark _)
  refine thn (h pins s σ H I R) fun v s1 ⟨x, H1, da, Ma, I1, r1, g1, i1, R1, q1⟩ => ?_
  refine thn (q1 pins s1 σ H1 I1 R1) fun u s2 ⟨y, H2, db, Mb, I2, r2, g2, i2, R2, q⟩ => ?_
  exact thn (eqL_run (neg := false) rfl hu I2 R2 (Is.grow g2 _ _ i1) i2 r1 r2 q) fun _ _ h => h.grow (g1.trans g2)
theorem l_ne (hu : X.A.units + 64 < cLine) (h : EV X G M a fun da Ma => EV X G Ma b fun db Mb => EqL da db Mb fun k M' => Q (.bl (!k)) M') : EV X G M (.Compare a [.NotEq] [b] pos) Q := by
  intro pins s σ H I R
  refine wpAny_Compare1 ?_ (nomark _)
  refine thn (h pins s σ H I R) fun v s1 ⟨x, H1, da, Ma, I1, r1, g1, i1, R1, q1⟩ => ?_
  refine thn (q1 pins s1 σ H1 I1 R1) fun u s2 ⟨y, H2, db, Mb, I2, r2, g2, i2, R2, q⟩ => ?_
  exact thn (eqL_run (neg := true) rfl hu I2 R2 (Is.grow g2 _ _ i1) i2 r1 r2 q) fun _ _ h => h.grow (g1.trans g2)
theorem lt_eq (hu : X.A.units + 64 < cLine) (h : EV X G M a fun da Ma => EV X G Ma b fun db Mb => EqL da db Mb Qb) : TV X G M (.Compare a [.Eq] [b] pos) Qb := by
  refine tv_cval (nomark _) fun pins s σ H I R => ?_
  refine thn (h pins s σ H I R) fun v s1 ⟨x, H1, da, Ma, I1, r1, g1, i1, R1, q1⟩ => ?_
  refine thn (q1 pins s1 σ H1 I1 R1) fun u s2 ⟨y, H2, db, Mb, I2, r2, g2, i2, R2, q⟩ => ?_
  exact thn (eqL_run (neg := false) rfl hu I2 R2 (Is.grow g2 _ _ i1) i2 r1 r2 (Q := fun d M' => ∃ k, d = .bl k ∧ Qb k M') ⟨q.1, _, rfl, q.2⟩) fun _ _ h => h.grow (g1.trans g2)
theorem lt_ne (hu : X.A.units + 64 < cLine) (h : EV X G M a fun da Ma => EV X G Ma b fun db Mb => EqL da db Mb fun k M' => Qb (!k) M') : TV X G M (.Compare a [.NotEq] [b] pos) Qb := by
  refine tv_cval (nomark _) fun pins s σ H I R => ?_
  refine thn (h pins s σ H I R) fun v s1 ⟨x, H1, da, Ma, I1, r1, g1, i1, R1, q1⟩ => ?_
  refine thn (q1 pins s1 σ H1 I1 R1) fun u s2 ⟨y, H2, db, Mb, I2, r2, g2, i2, R2, q⟩ => ?_
  exact thn (eqL_run (neg := true) rfl hu I2 R2 (Is.grow g2 _ _ i1) i2 r1 r2 (Q := fun d M' => ∃ k, d = .bl k ∧ Qb k M') ⟨q.1, _, rfl, q.2⟩) fun _ _ h => h.grow (g1.trans g2)
/-- a test by a call's value -/
theorem tv_call {f : Expr} {kws : List Keyword} (h : EV X G M (.Call f es kws pos) fun d M' => ∃ k, TruD X.K d M' k ∧ Qb k M') (he : ∀ whole, isTrue (.Call f es kws pos) X.env whole = (do let v ← whole; standAt (Expr.Call f es kws pos).pos; holding [v] (truthy v)) := by intro _; rfl) : TV X G M (.Call f es kws pos) Qb := tv_of h he
theorem ev_callM {j k : Nat} {x : Str} {p : Pos} {sp : SpD} (C : Cal X.prog X.w X.K X.mg X.base j x sp) (hr : Room k X.A) (hk : j ≤ k) (h : AV X G M (e :: es) fun ds M1 => sp ds M1 Q) (hg : Gl X x := by rfl) (hdb : (x == ("__debug__" : Str)) = false := by decide)
    (he : starEach (e :: es) X.env = (false, eval e X.env) :: starEach es X.env := by rfl) (hpl : (backTo pos (starEach es X.env)).any (·.1) = false := by rfl) : EV X G M (.Call (.Name x p) (e :: es) [] pos) Q := ev_call (C.mono hk) hr h hg hdb he hpl
theorem tvs_one (h : TV X G M c Qb) : TVs X G M [c] Qb := h
theorem tvs_nil (h : Qb true M) : TVs X G M [] Qb := h
/-- a statement whose ways meet -/
theorem exs_join {st : Stmt} {sts : List Stmt} {E : EndsD} (J : Ga → MH → Prop) (h : EX X G M st { E with nx := J }) (k : ∀ G' M', J G' M' → EXs X G' M' sts E) : EXs X G M (st :: sts) E := by
  refine exs_cons ?_
  intro pins s σ H I R
  refine thn (h pins s σ H I R) fun f s1 q => ?_
  cases f with
  | next => obtain ⟨σ', H', G', M', I', g', R', q⟩ := q; exact ⟨σ', H', G', M', I', g', R', k _ _ q⟩
  | ret v => exact q
  | brk => exact q
  | cont => exact q
/-! ifs -/
theorem ifD {c A B : Prop} [Decidable c] (h1 : c → A) (h2 : ¬ c → B) : if decide c = true then A else B := by
  by_cases h : c
  · rw [if_pos (decide_eq_true h)]; exact h1 h
  · rw [if_neg (by simp [h])]; exact h2 h
theorem ifN {c A B : Prop} [Decidable c] (h1 : ¬ c → A) (h2 : c → B) : if (!decide c) = true then A else B := by
  by_cases h : c
  · rw [if_neg (by simp [h])]; exact h2 h
  · rw [if_pos (by simp [h])]; exact h1 h
theorem ifT {A B : Prop} (h : A) : if true = true then A else B := by rw [if_pos rfl]; exact h
theorem ifF {A B : Prop} (h : B) : if false = true then A else B := by rw [if_neg (by decide)]; exact h
theorem ifNT {A B : Prop} (h : B) : if (!true) = true then A else B := by rw [if_neg (by decide)]; exact h
theorem ifNF {A B : Prop} (h : A) : if (!false) = true then A else B := by rw [if_pos (by decide)]; exact h
theorem ifDy {c A B : Prop} [Decidable c] (h : c) (a : A) : if decide c = true then A else B := by rw [if_pos (decide_eq_true h)]; exact a
theorem ifDn {c A B : Prop} [Decidable c] (h : ¬ c) (b : B) : if decide c = true then A else B := by rw [if_neg (by simp [h])]; exact b
theorem ifNn {c A B : Prop} [Decidable c] (h : c) (b : B) : if (!decide c) = true then A else B := by rw [if_neg (by simp [h])]; exact b
end
end D3

set_option Elab.async false
set_option linter.all false
set_option maxRecDepth 100000
set_option maxHeartbeats 4000000
namespace D3
open PySem PySem.Spec PyProof.Rows L2
/-! ### dicts by texts -/
def lkD : List (Str × D) → Str → Option D
  | [], _ => none
  | (x, d) :: r, k => if x = k then some d else lkD r k
def putD (kvs : List (Str × D)) (k : Str) (d : D) : List (Str × D) :=
  if (kvs.any fun kv => decide (kv.1 = k)) = true then kvs.map (fun kv => if kv.1 = k then (kv.1, d) else kv) else kvs ++ [(k, d)]
theorem lkD_cons (x : Str) (d : D) (r : List (Str × D)) (k : Str) : lkD ((x, d) :: r) k = if x = k then some d else lkD r k := rfl
theorem KvIs.len {H : Hp} : ∀ {kvs : List (Str × D)} {ys : List (Key × V)}, KvIs H kvs ys → kvs.length = ys.length
  | [], ys, h => by rw [show ys = [] from h]; rfl
  | (k, d) :: r, ys, h => by
    obtain ⟨v, ys', rfl, _, h2⟩ := h
    rw [List.length_cons, List.length_cons, KvIs.len h2]
theorem KvIs.val {H : Hp} : ∀ {kvs : List (Str × D)} {ys : List (Key × V)} (k : Str), KvIs H kvs ys → match lkD kvs k with
    | some d => ∃ v, valV ys (Sum.inr k) = some v ∧ Is H d v
    | none => valV ys (Sum.inr k) = none
  | [], ys, k, h => by rw [show ys = [] from h]; exact valV_nil
  | (x, d) :: r, ys, k, h => by
    obtain ⟨v, ys', rfl, h1, h2⟩ := h
    have ih := KvIs.val k h2
    rw [lkD_cons]
    by_cases e : x = k
    · rw [if_pos e]
      exact ⟨v, valV_pos (by rw [e]), h1⟩
    · rw [if_neg e]
      have hne : ¬ (Sum.inr x : Key) = Sum.inr k := fun z => e (Sum.inr.inj z)
      rw [valV_neg (p := (Sum.inr x, v)) hne]
      exact ih
theorem KvIs.get {H : Hp} {kvs : List (Str × D)} {ys : List (Key × V)} {k : Str} {d : D} (h : KvIs H kvs ys) (e : lkD kvs k = some d) : ∃ v, valV ys (Sum.inr k) = some v ∧ Is H d v := by
  have := h.val k; rw [e] at this; exact this
theorem KvIs.some_eq {H : Hp} {kvs : List (Str × D)} {ys : List (Key × V)} (h : KvIs H kvs ys) (k : Str) : (valV ys (Sum.inr k)).isSome = (lkD kvs k).isSome := by
  have := h.val k
  cases e : lkD kvs k with
  | none => rw [e] at this; rw [show valV ys (Sum.inr k) = none from this]; rfl
  | some d => rw [e] at this; obtain ⟨v, h1, _⟩ := this; rw [h1]; rfl
theorem KvIs.any {H : Hp} {k : Str} : ∀ {kvs : List (Str × D)} {ys : List (Key × V)}, KvIs H kvs ys → (kvs.any fun kv => decide (kv.1 = k)) = ys.any fun kv => decide (kv.1 = Sum.inr k)
  | [], ys, h => by rw [show ys = [] from h]; rfl
  | (x, d) :: r, ys, h => by
    obtain ⟨v, ys', rfl, h1, h2⟩ := h
    rw [List.any_cons, List.any_cons, KvIs.any h2, key_rr]
theorem KvIs.repl {H : Hp} {k : Str} {d : D} {v : V} (i : Is H d v) : ∀ {kvs : List (Str × D)} {ys : List (Key × V)}, KvIs H kvs ys →
    KvIs H (kvs.map fun kv => if kv.1 = k then (kv.1, d) else kv) (ys.map fun kv => if kv.1 = Sum.inr k then (kv.1, v) else kv)
  | [], ys, h => by rw [show ys = [] from h]; rfl
  | (x, e) :: r, ys, h => by
    obtain ⟨u, ys', rfl, h1, h2⟩ := h
    have ih := KvIs.repl (k := k) i h2
    rw [List.map_cons, List.map_cons]
    by_cases z : x = k
    · rw [if_pos z, if_pos (by rw [z])]
      exact ⟨v, _, rfl, i, ih⟩
    · rw [if_neg z, if_neg (fun q => z (Sum.inr.inj q))]
      exact ⟨u, _, rfl, h1, ih⟩
theorem KvIs.snoc {H : Hp} {k : Str} {d : D} {v : V} (i : Is H d v) : ∀ {kvs : List (Str × D)} {ys : List (Key × V)}, KvIs H kvs ys → KvIs H (kvs ++ [(k, d)]) (ys ++ [(Sum.inr k, v)])
  | [], ys, h => by rw [show ys = [] from h]; exact ⟨v, [], rfl, i, rfl⟩
  | (x, e) :: r, ys, h => by
    obtain ⟨u, ys', rfl, h1, h2⟩ := h
    exact ⟨u, _, rfl, h1, KvIs.snoc i h2⟩
theorem KvIs.put {H : Hp} {k : Str} {d : D} {v : V} (i : Is H d v) {kvs : List (Str × D)} {ys : List (Key × V)} (h : KvIs H kvs ys) : KvIs H (putD kvs k d) (putK ys (Sum.inr k) v) := by
  unfold putD putK
  rw [h.any]
  split
  · exact h.repl i
  · exact h.snoc i
theorem any_lkD (k : Str) : ∀ kvs : List (Str × D), (kvs.any fun kv => decide (kv.1 = k)) = (lkD kvs k).isSome
  | [] => rfl
  | (x, e) :: r => by
    rw [List.any_cons, any_lkD k r, lkD_cons]
    by_cases h : x = k
    · rw [if_pos h, decide_eq_true h]; rfl
    · rw [if_neg h, decide_eq_false h]; rfl
theorem putD_new {kvs : List (Str × D)} {k : Str} {d : D} (h : lkD kvs k = none) : putD kvs k d = kvs ++ [(k, d)] := by
  unfold putD; rw [any_lkD, h, if_neg (by simp)]
section
variable {X : Cx} {G : Ga} {M : MH} {a b c e o i : Expr} {es rest : List Expr} {pos : Pos} {Q : DK} {Qb : Bool → MH → Prop}
theorem ev_dnew (h : ∀ p, M p = none → Q (.ref p) (mset M p (.dic []))) : EV X G M (.Dict [] [] pos) Q :=
  EV.of pe_dnewK fun σ H kf R => fun p hp kf' => ⟨grow_new hp, .ref p, mset M p (.dic []), is_ref.mpr rfl, R.mem.lay hp ⟨[], upd_same, rfl⟩, h p (R.mem.fresh hp kf')⟩
/-- the item of a list, a tuple, a text by a number; of a dict by a text -/
def IxA (da db : D) (M : MH) (Q : DK) : Prop := match db with
  | .int i => match da with
    | .str z => ∃ c, z.length ≤ sizeLine ∧ atI z.cps.toList i = some c ∧ Q (.str ⟨#[c]⟩) M
    | _ => IxD da i M Q
  | .str k => ∃ p kvs d, da = .ref p ∧ M p = some (.dic kvs) ∧ lkD kvs k = some d ∧ Q d M
  | _ => False
theorem ix_at {ds : List D} {j : Int} {d : D} (e : atI ds j = some d) (q : Q d M) : IxA (.tup ds) (.int j) M Q := ix_tl e q
theorem ix_al {l : Addr} {ds : List D} {j : Int} {d : D} (h : M l = some (.lst ds)) (e : atI ds j = some d) (q : Q d M) : IxA (.ref l) (.int j) M Q := ix_ll h e q
theorem ix_ar {l : Addr} {ds : List D} {j : Int} {d : D} (h : M l = some (.ro ds)) (e : atI ds j = some d) (q : Q d M) : IxA (.ref l) (.int j) M Q := ix_rl h e q
theorem ix_as {z : Str} {j : Int} {c : Nat} (h : z.length ≤ sizeLine) (e : atI z.cps.toList j = some c) (q : Q (.str ⟨#[c]⟩) M) : IxA (.str z) (.int j) M Q := ⟨c, h, e, q⟩
theorem ix_ad {p : Addr} {kvs : List (Str × D)} {k : Str} {d : D} (h : M p = some (.dic kvs)) (e : lkD kvs k = some d) (q : Q d M) : IxA (.ref p) (.str k) M Q := ⟨p, kvs, d, rfl, h, e, q⟩
theorem ix_dict (hu : X.A.units + 1 < cLine) : IxR X (fun x y H Q => ∃ a v, x = .ref a ∧ DGet H a y (some v) ∧ Q v H) := by
  intro value slice pins s σ H x y v u Q I rx ry h hs
  obtain ⟨a, z, rfl, g, q⟩ := h
  cases rx
  exact tail_any (dict_typeIs I g) PySem.F.slot_dict_getitem.lookup (d_getItem hu I g ry fun w' s3 I3 rw' => ⟨z, H, I3, rw', q⟩) hs
theorem rd_ixA {da db : D} (h : IxA da db M Q) : RD X.K (fun x y H Q => rIx X.K x y H Q ∨ ∃ a v, x = .ref a ∧ DGet H a y (some v) ∧ Q v H) da db M Q := by
  intro H x y kf hx hy m
  unfold IxA at h
  cases db with
  | int i =>
    cases da with
    | str z =>
      obtain ⟨c, h1, h2, q⟩ := h
      rw [is_int] at hy; subst hy
      rw [is_str] at hx; subst hx
      exact .inl (.inr (.inr ⟨z, i, c, rfl, rfl, h1, h2, fun _ => ⟨Grow.refl _, _, M, is_str.mpr rfl, m, q⟩⟩))
    | non => exact h.elim
    | bl _ => exact h.elim
    | int _ => exact h.elim
    | ty _ => exact h.elim
    | tup ds => exact .inl (rd_ix (X := X) h H x y kf hx hy m)
    | ref l => exact .inl (rd_ix (X := X) h H x y kf hx hy m)
  | str k =>
    obtain ⟨p, kvs, d, rfl, h1, h2, q⟩ := h
    rw [is_ref] at hx; subst hx
    rw [is_str] at hy; subst hy
    obtain ⟨ys, e1, e2⟩ := m p _ h1
    obtain ⟨v, e3, e4⟩ := e2.get h2
    exact .inr ⟨p, v, rfl, by rw [← e3]; exact DGet.k (k := Sum.inr k) e1, fun _ => ⟨Grow.refl _, d, M, e4, m, q⟩⟩
  | non => exact h.elim
  | bl _ => exact h.elim
  | ty _ => exact h.elim
  | tup _ => exact h.elim
  | ref _ => exact h.elim
theorem l_item (hu : X.A.units + 64 < cLine) (h : EV X G M a fun da Ma => EV X G Ma b fun db Mb => IxA da db Mb Q) (hs : PlainIx b) : EV X G M (.Subscript a b pos) Q :=
  ev_ix (ix_seq.or (ix_dict (by omega))) hs (h.mono fun _ _ h1 => h1.mono fun _ _ q => rd_ixA q)
/-- d[k] = v, xs[i] = v -/
def SetL (d1 d2 d : D) (M : MH) (Qm : MH → Prop) : Prop := match d1, d2 with
  | .ref p, .int k => ∃ ds j, M p = some (.lst ds) ∧ ixN ds.length k = some j ∧ Qm (mset M p (.lst (ds.set j d)))
  | .ref p, .str k => ∃ kvs, M p = some (.dic kvs) ∧ kvs.length < sizeLine ∧ Qm (mset M p (.dic (putD kvs k d)))
  | _, _ => False
theorem set_ll {p : Addr} {k : Int} {d : D} {ds : List D} {j : Nat} {Qm : MH → Prop} (h : M p = some (.lst ds)) (e : ixN ds.length k = some j) (q : Qm (mset M p (.lst (ds.set j d)))) : SetL (.ref p) (.int k) d M Qm := ⟨ds, j, h, e, q⟩
theorem set_dl {p : Addr} {k : Str} {d : D} {kvs : List (Str × D)} {Qm : MH → Prop} (h : M p = some (.dic kvs)) (e : kvs.length < sizeLine) (q : Qm (mset M p (.dic (putD kvs k d)))) : SetL (.ref p) (.str k) d M Qm := ⟨kvs, h, e, q⟩
theorem SetL.cases {d1 d2 d : D} {Qm : MH → Prop} (h : SetL d1 d2 d M Qm) : (∃ p k ds j, d1 = .ref p ∧ d2 = .int k ∧ M p = some (.lst ds) ∧ ixN ds.length k = some j ∧ Qm (mset M p (.lst (ds.set j d)))) ∨ ∃ p k kvs, d1 = .ref p ∧ d2 = .str k ∧ M p = some (.dic kvs) ∧ kvs.length < sizeLine ∧ Qm (mset M p (.dic (putD kvs k d))) := by
  unfold SetL at h
  split at h
  · obtain ⟨ds, j, h1, h2, h3⟩ := h
    exact .inl ⟨_, _, ds, j, rfl, rfl, h1, h2, h3⟩
  · obtain ⟨kvs, h1, h2, h3⟩ := h
    exact .inr ⟨_, _, kvs, rfl, rfl, h1, h2, h3⟩
  · exact h.elim
theorem gv_set {d : D} {Qg : Ga → MH → Prop} (hu : X.A.units + 64 < cLine) (h : EV X G M o fun d1 M1 => EV X G M1 i fun d2 M2 => SetL d1 d2 d M2 fun M3 => Qg G M3)
    (ha : ∀ v, assign (.Subscript o i pos) X.env v = (do
      let ov ← holding [v] (eval o X.env)
      let iv ← holding [v, ov] (eval i X.env)
      standAt pos
      holding [v, ov, iv] (setItem ov iv v)
      release [v, ov, iv] [])) : GV X G M (.Subscript o i pos) d Qg := by
  intro pins s σ H v u I R r iv
  rw [ha]
  refine wpAny_bind (wpAny_holding (thn (h pins s σ H I R) fun ov s1 ⟨x, H1, d1, M1, I1, r1, g1, i1, R1, q1⟩ => ?_))
  refine wpAny_bind (wpAny_holding (thn (q1 pins s1 σ H1 I1 R1) fun iv' s2 ⟨y, H2, d2, M2, I2, r2, g2, i2, R2, q2⟩ => ?_))
  rcases SetL.cases q2 with ⟨p, k, ds, j, rfl, rfl, hp, hj, q⟩ | ⟨p, k, kvs, rfl, rfl, hp, hz, q⟩
  · skip
    rw [is_ref] at i1; subst i1
    rw [is_int] at i2; subst i2
    obtain ⟨xs, hx, hxi⟩ := R2.mem p _ hp
    have nt : ∀ ys, H2 p ≠ some (.tup ys) := fun ys z => by rw [hx] at z; cases z
    have gu : Grow H2 (upd H2 p (.lst (xs.set j v))) := grow_upd nt
    refine wpAny_bind (wpAny_standAt (wpAny_bind (wpAny_holding (thn (set_list pins s2 σ H2 (.ref p) (.int k) v ov iv' u (fun H' => H' = upd H2 p (.lst (xs.set j v))) I2 r1 r2 r ⟨p, xs, k, j, rfl, rfl, hx, by rw [← hxi.len]; exact hj, rfl⟩) fun _ s3 ⟨H3, I3, e3⟩ => ?_))))
    subst e3
    refine wpAny_release ⟨σ, _, G, _, I3, (g1.trans g2).trans gu, R2.to gu (R2.mem.put (u := .lst (ds.set j d)) nt ⟨_, upd_same, (hxi.grow gu).set j (Is.grow ((g1.trans g2).trans gu) _ _ iv)⟩), q⟩
  · skip
    rw [is_ref] at i1; subst i1
    rw [is_str] at i2; subst i2
    obtain ⟨ys, hx, hxi⟩ := R2.mem p _ hp
    cases r1
    have nt : ∀ zs, H2 p ≠ some (.tup zs) := fun zs z => by rw [hx] at z; cases z
    have gu : Grow H2 (upd H2 p (.dK (putK ys (Sum.inr k) v))) := grow_upd nt
    refine wpAny_bind (wpAny_standAt (wpAny_bind (wpAny_holding (d_setItem (by omega) I2 (DPut.k (k := Sum.inr k) hx (by rw [← hxi.len]; exact hz)) r2 r fun s3 I3 => ?_))))
    refine wpAny_release ⟨σ, _, G, _, I3, (g1.trans g2).trans gu, R2.to gu (R2.mem.put (u := .dic (putD kvs k d)) nt ⟨_, upd_same, (hxi.grow gu).put (Is.grow ((g1.trans g2).trans gu) _ _ iv)⟩), q⟩
end
end D3

namespace K01
/-- one of Euclid's steps, Python's rest -/
theorem gcd_step {a b : Int} (hb : 0 < b) : Int.gcd b (a.fmod b) = Int.gcd a b := by
  rw [Int.fmod_eq_emod_of_nonneg a (Int.le_of_lt hb)]
  have h := Int.mul_ediv_add_emod a b
  apply Nat.dvd_antisymm
  · apply Int.dvd_gcd
    · have h1 : ((Int.gcd b (a % b) : Nat) : Int) ∣ b := Int.gcd_dvd_left ..
      have h2 : ((Int.gcd b (a % b) : Nat) : Int) ∣ a % b := Int.gcd_dvd_right ..
      have h3 := Int.dvd_add (Int.dvd_trans h1 (Int.dvd_mul_right b (a / b))) h2
      rw [h] at h3
      exact h3
    · exact Int.gcd_dvd_left ..
  · apply Int.dvd_gcd
    · exact Int.gcd_dvd_right ..
    · have h1 : ((Int.gcd a b : Nat) : Int) ∣ a := Int.gcd_dvd_left ..
      have h2 : ((Int.gcd a b : Nat) : Int) ∣ b := Int.gcd_dvd_right ..
      rw [Int.emod_def]
      exact Int.dvd_sub h1 (Int.dvd_trans h2 (Int.dvd_mul_right ..))
theorem fmod_lt {a b : Int} (hb : 0 < b) : 0 ≤ a.fmod b ∧ a.fmod b < b := by
  rw [Int.fmod_eq_emod_of_nonneg a (Int.le_of_lt hb)]
  exact ⟨Int.emod_nonneg _ (by omega), Int.emod_lt_of_pos _ hb⟩
theorem gcd_zero_right' {a : Int} (h : 0 ≤ a) : ((Int.gcd a 0 : Nat) : Int) = a := by
  rw [Int.gcd_zero_right]; omega
/-- the fraction in lowest terms -/
def dv (t b : Int) : Int := if b < 0 then -((Int.gcd t b : Nat) : Int) else ((Int.gcd t b : Nat) : Int)
def tp (t b : Int) : Int := t.fdiv (dv t b)
def bt (t b : Int) : Int := b.fdiv (dv t b)
theorem gcd_pos {t b : Int} (h : b ≠ 0) : 0 < Int.gcd t b := Int.gcd_pos_of_ne_zero_right t h
theorem dv_ne {t b : Int} (h : b ≠ 0) : dv t b ≠ 0 := by
  have := gcd_pos (t := t) h
  unfold dv; split <;> omega
theorem dv_dvd_left (t b : Int) : dv t b ∣ t := by
  unfold dv; split
  · exact Int.neg_dvd.mpr (Int.gcd_dvd_left ..)
  · exact Int.gcd_dvd_left ..
theorem dv_dvd_right (t b : Int) : dv t b ∣ b := by
  unfold dv; split
  · exact Int.neg_dvd.mpr (Int.gcd_dvd_right ..)
  · exact Int.gcd_dvd_right ..
theorem tp_eq (t b : Int) : tp t b * dv t b = t := Int.fdiv_mul_cancel_of_dvd (dv_dvd_left t b)
theorem bt_eq (t b : Int) : bt t b * dv t b = b := Int.fdiv_mul_cancel_of_dvd (dv_dvd_right t b)
theorem bt_pos {t b : Int} (h : b ≠ 0) : 0 < bt t b := by
  have e := bt_eq t b
  have g := gcd_pos (t := t) h
  unfold dv at e
  split at e
  · rename_i hb
    refine Int.lt_of_not_ge fun z => ?_
    have : 0 ≤ bt t b * -((Int.gcd t b : Nat) : Int) := by
      have := Int.mul_nonneg_of_nonpos_of_nonpos (a := bt t b) (b := -((Int.gcd t b : Nat) : Int)) z (by omega)
      exact this
    omega
  · rename_i hb
    refine Int.lt_of_not_ge fun z => ?_
    have : bt t b * ((Int.gcd t b : Nat) : Int) ≤ 0 := Int.mul_nonpos_of_nonpos_of_nonneg z (by omega)
    omega
theorem cross (t b : Int) : tp t b * b = t * bt t b := by
  have h1 := tp_eq t b
  have h2 := bt_eq t b
  calc tp t b * b = tp t b * (bt t b * dv t b) := by rw [h2]
    _ = (tp t b * dv t b) * bt t b := by rw [Int.mul_comm (bt t b), ← Int.mul_assoc]
    _ = t * bt t b := by rw [h1]
theorem coprime {t b : Int} (h : b ≠ 0) : Int.gcd (tp t b) (bt t b) = 1 := by
  have h1 := tp_eq t b
  have h2 := bt_eq t b
  have h3 : Int.gcd (tp t b * dv t b) (bt t b * dv t b) = Int.gcd (tp t b) (bt t b) * (dv t b).natAbs := Int.gcd_mul_right ..
  rw [h1, h2] at h3
  have h4 : (dv t b).natAbs = Int.gcd t b := by unfold dv; split <;> omega
  rw [h4] at h3
  have g := gcd_pos (t := t) h
  exact Nat.eq_of_mul_eq_mul_right g (by rw [Nat.one_mul]; exact h3.symm)
theorem abs_le_of_mul {x y z : Int} (h : x * y = z) (hy : y ≠ 0) : x.natAbs ≤ z.natAbs := by
  rw [← h, Int.natAbs_mul]
  exact Nat.le_mul_of_pos_right _ (by omega)
theorem tp_le {t b : Int} (h : b ≠ 0) : (tp t b).natAbs ≤ t.natAbs := abs_le_of_mul (tp_eq t b) (dv_ne h)
theorem bt_le {t b : Int} (h : b ≠ 0) : (bt t b).natAbs ≤ b.natAbs := abs_le_of_mul (bt_eq t b) (dv_ne h)
theorem log2_lt {n k : Nat} (hk : 0 < k) (h : n < 2 ^ k) : n.log2 < k := by
  rcases Nat.eq_zero_or_pos n with h0 | hp
  · rw [h0, Nat.log2_zero]; exact hk
  · exact (Nat.log2_lt (Nat.ne_of_gt hp)).mpr h
end K01

set_option Elab.async false
set_option linter.all false
set_option maxRecDepth 100000
set_option maxHeartbeats 4000000
/-! what the laws share: bounds, promises of the program's defs, small facts -/
namespace KA
open PySem PySem.Spec PyProof.Rows L2 D3 K01
def Lim (x : Int) : Prop := x.natAbs < 2 ^ 8000
def Cell (c : Int) : Prop := Builtin.Int.intBits c ≤ 2097152
def spCd : SpD := fun ds M Q => ∃ a b : Int, ds = [.int a, .int b] ∧ 0 ≤ a ∧ 0 ≤ b ∧ Lim a ∧ Lim b ∧ Q (.int (Int.gcd a b : Nat)) M
abbrev fr (t b : Int) : D := .tup [.int t, .int b]
/-- numbers below 2 ^ n -/
def B (n : Nat) (x : Int) : Prop := x.natAbs < 2 ^ n
theorem bits_le {x : Int} {n : Nat} (h : x.natAbs < 2 ^ n) : Builtin.Int.intBits x ≤ n := by
  unfold Builtin.Int.intBits
  split
  · exact Nat.zero_le _
  · rename_i hx
    have : x.natAbs ≠ 0 := by intro z; apply hx; simp; omega
    have := (Nat.log2_lt this).mpr h
    omega
theorem mul_ok {x y : Int} {m n : Nat} (hx : Builtin.Int.intBits x ≤ m) (hy : Builtin.Int.intBits y ≤ n) (h : m + n ≤ 134217728) : IntMulOk x y := by
  unfold IntMulOk
  intro z
  rw [Bool.and_eq_true] at z
  have z2 := z.2
  unfold Builtin.Int.intTooBig at z2
  rw [bitsLine_eq] at z2
  have := of_decide_eq_true z2
  omega
theorem Lim.mul {x y : Int} (hx : Lim x) (hy : Lim y) : IntMulOk x y := mul_ok (bits_le hx) (bits_le hy) (by omega)
theorem Lim.le {x y : Int} (h : x.natAbs ≤ y.natAbs) (hy : Lim y) : Lim x := Nat.lt_of_le_of_lt h hy
theorem Lim.div {x y : Int} (h0 : y ≠ 0) (hy : Lim y) : CDivB x y := ⟨h0, Nat.lt_trans (log2_lt (by decide) hy) (by decide)⟩
theorem B.mulOk {x y : Int} {m n : Nat} (hx : B m x) (hy : B n y) (h : m + n ≤ 134217728) : IntMulOk x y := mul_ok (bits_le hx) (bits_le hy) h
theorem B.mul {x y : Int} {m n : Nat} (hx : B m x) (hy : B n y) : B (m + n) (x * y) := by
  unfold B
  rw [Int.natAbs_mul, Nat.pow_add]
  exact Nat.mul_lt_mul'' hx hy
theorem B.up {x : Int} {m n : Nat} (h : m ≤ n) (hx : B m x) : B n x := Nat.lt_of_lt_of_le hx (Nat.pow_le_pow_right (by decide) h)
theorem B.add {x y : Int} {m : Nat} (hx : B m x) (hy : B m y) : B (m + 1) (x + y) := by
  unfold B at *
  rw [Nat.pow_succ]
  have := Int.natAbs_add_le x y
  omega
theorem B.neg {x : Int} {m : Nat} (hx : B m x) : B m (-x) := by unfold B; rw [Int.natAbs_neg]; exact hx
theorem B.sub {x y : Int} {m : Nat} (hx : B m x) (hy : B m y) : B (m + 1) (x - y) := by
  have := hx.add hy.neg
  rw [← Int.sub_eq_add_neg] at this
  exact this
theorem B.le {x y : Int} {m : Nat} (h : x.natAbs ≤ y.natAbs) (hy : B m y) : B m x := Nat.lt_of_le_of_lt h hy
theorem B.lim {x : Int} {m : Nat} (hx : B m x) (h : m ≤ 8000) : Lim x := B.up (n := 8000) h hx
theorem abs_eq (a : Int) : (if a < 0 then -a else a) = (a.natAbs : Int) := by split <;> omega
theorem small {n : Nat} (h : n ≤ 1000) : n ≤ sizeLine := Nat.le_of_lt (small1000 h)
theorem Ext.refl (M : MH) : Ext M M := fun _ _ h => h
theorem Ext.trans {M M1 M2 : MH} (a : Ext M M1) (b : Ext M1 M2) : Ext M M2 := fun x o h => b x o (a x o h)
/-- a def of the top -/
def At (K : PySem.W.Frag) (x : Str) (st : Stmt) : Prop := ∃ (f : Addr) (od an : Option Addr) (sl : Array (Option Value)) (oc kV dc pm cd ct : Value), PySem.W.nsIn K mainGlobals x = some (some (.ref f)) ∧ K.lookup f = some ⟨oc, od, .func (PySem.W.fnOf x x (defArgs st) (defBody st) (defScope st) .none kV dc pm an cd ct), sl⟩ ∧ PySem.W.codeIn K cd x = true ∧ PySem.W.keepIn K (.ref f) = true
theorem At.mk {K : PySem.W.Frag} {x : Str} {st : Stmt} {f : Addr} {od an : Option Addr} {sl : Array (Option Value)} {oc kV dc pm cd ct : Value} (a : PySem.W.nsIn K mainGlobals x = some (some (.ref f))) (l : K.lookup f = some ⟨oc, od, .func (PySem.W.fnOf x x (defArgs st) (defBody st) (defScope st) .none kV dc pm an cd ct), sl⟩)
    (c : PySem.W.codeIn K cd x = true) (k : PySem.W.keepIn K (.ref f) = true) : At K x st := ⟨f, od, an, sl, oc, kV, dc, pm, cd, ct, a, l, c, k⟩
theorem At.get {K : PySem.W.Frag} {x : Str} {st : Stmt} {h : Heap} {mg : Str → Option Value} (A : At K x st) (X : K.In h) (G : h.Ns mainGlobals mg) : ∃ f fd, Fun K x x st f fd ∧ mg x = some (.ref f) := by
  obtain ⟨f, od, an, sl, oc, kV, dc, pm, cd, ct, a, l, c, k⟩ := A
  exact ⟨f, _, fun_mk (st := st) l c k, PySem.W.mg_of X G a⟩
theorem dvd_cop {y x b : Int} (h : y ∣ x * b) (g : Int.gcd x y = 1) : y ∣ b := by
  have h1 : y.natAbs ∣ x.natAbs * b.natAbs := by rw [← Int.natAbs_mul]; exact Int.natAbs_dvd_natAbs.mpr h
  have h2 : Nat.Coprime y.natAbs x.natAbs := by
    show Nat.gcd _ _ = 1
    rw [Nat.gcd_comm]; exact g
  exact Int.natAbs_dvd_natAbs.mp (h2.dvd_of_dvd_mul_left h1)
/-- lowest terms are one -/
theorem lowest {x y a b : Int} (hy : 0 < y) (hb : 0 < b) (h1 : Int.gcd x y = 1) (h2 : Int.gcd a b = 1) (h : x * b = a * y) : x = a ∧ y = b := by
  have d1 : y ∣ b := by
    have : y ∣ x * b := by rw [h]; exact Int.dvd_mul_left _ _
    exact dvd_cop this h1
  have d2 : b ∣ y := by
    have : b ∣ a * y := by rw [← h]; exact Int.dvd_mul_left _ _
    exact dvd_cop this h2
  have e : y = b := Int.le_antisymm (Int.le_of_dvd hb d1) (Int.le_of_dvd hy d2)
  subst e
  exact ⟨Int.eq_of_mul_eq_mul_right (by omega) h, rfl⟩
/-- a quotient in lowest terms: the very fraction, crosswise -/
theorem made_is {t b x y : Int} (hb : b ≠ 0) (hy : 0 < y) (h1 : Int.gcd x y = 1) (h : x * b = t * y) : tp t b = x ∧ bt t b = y := by
  have c := cross t b
  refine lowest (bt_pos hb) hy (coprime hb) h1 ?_
  have hb' : b ≠ 0 := hb
  apply Int.eq_of_mul_eq_mul_right hb'
  calc tp t b * y * b = (tp t b * b) * y := by rw [Int.mul_right_comm]
    _ = t * bt t b * y := by rw [c]
    _ = (t * y) * bt t b := by rw [Int.mul_right_comm]
    _ = x * b * bt t b := by rw [h]
    _ = x * bt t b * b := by rw [Int.mul_right_comm]
end KA

set_option Elab.async false
set_option linter.all false
set_option maxRecDepth 100000
set_option maxHeartbeats 4000000
/-! bounds by classes, what stays of the memory, the draws' promises -/
namespace KA
open PySem PySem.Spec PyProof.Rows L2 D3 K01
class Bd (x : Int) (n : outParam Nat) : Prop where
  h : x.natAbs < 2 ^ n
theorem Bd.b {x : Int} {n : Nat} (i : Bd x n) : B n x := i.h
theorem Bd.of {x : Int} {n : Nat} (i : B n x) : Bd x n := ⟨i⟩
instance bd_mul {x y : Int} {m n : Nat} [i : Bd x m] [j : Bd y n] : Bd (x * y) (m + n) := ⟨B.mul i.h j.h⟩
instance bd_add {x y : Int} {m n : Nat} [i : Bd x m] [j : Bd y n] : Bd (x + y) (max m n + 1) := ⟨B.add (B.up (Nat.le_max_left ..) i.h) (B.up (Nat.le_max_right ..) j.h)⟩
instance bd_sub {x y : Int} {m n : Nat} [i : Bd x m] [j : Bd y n] : Bd (x - y) (max m n + 1) := ⟨B.sub (B.up (Nat.le_max_left ..) i.h) (B.up (Nat.le_max_right ..) j.h)⟩
instance bd_neg {x : Int} {m : Nat} [i : Bd x m] : Bd (-x) m := ⟨B.neg i.h⟩
instance (priority := low) bd_any {x : Int} : Bd x (x.natAbs.log2 + 1) := ⟨Nat.lt_log2_self⟩
instance bd_pow {x : Int} {m k : Nat} [i : Bd x m] : Bd (x ^ k) (m * k + 1) := ⟨by
  rw [Int.natAbs_pow]
  have h : x.natAbs ^ k ≤ (2 ^ m) ^ k := Nat.pow_le_pow_left (Nat.le_of_lt i.h) k
  rw [← Nat.pow_mul] at h
  rw [Nat.pow_succ]
  have : 0 < 2 ^ (m * k) := Nat.pow_pos (by decide)
  omega⟩
theorem fdiv_abs (x y : Int) : (x.fdiv y).natAbs ≤ x.natAbs := Int.natAbs_fdiv_le_natAbs x y
instance bd_fdiv {x y : Int} {m : Nat} [i : Bd x m] : Bd (x.fdiv y) m := ⟨Nat.lt_of_le_of_lt (fdiv_abs x y) i.h⟩
theorem mulOk {x y : Int} {m n : Nat} [i : Bd x m] [j : Bd y n] (h : m + n ≤ 134217728 := by first | decide +kernel | omega) : IntMulOk x y := B.mulOk i.h j.h h
theorem lim {x : Int} {m : Nat} [i : Bd x m] (h : m ≤ 8000 := by first | decide +kernel | omega) : Lim x := B.lim i.h h
theorem divOk {x y : Int} {m : Nat} [i : Bd y m] (h0 : y ≠ 0) (h : m ≤ 8000 := by first | decide +kernel | omega) : CDivB x y := Lim.div h0 (lim h)
theorem Bd.up {x : Int} {m n : Nat} [i : Bd x m] (h : m ≤ n := by first | decide +kernel | omega) : Bd x n := ⟨B.up h i.h⟩
theorem Bd.up' {x : Int} {m n : Nat} (i : Bd x m) (h : m ≤ n) : Bd x n := ⟨B.up h i.h⟩
theorem Bd.le {x y : Int} {m : Nat} (h : x.natAbs ≤ y.natAbs) (i : Bd y m) : Bd x m := ⟨Nat.lt_of_le_of_lt h i.h⟩
theorem Bd.rng {x : Int} {n : Nat} (h1 : -((2 : Int) ^ n) < x) (h2 : x < 2 ^ n) : Bd x n := ⟨by
  have e : ((2 ^ n : Nat) : Int) = (2 : Int) ^ n := by rw [Int.natCast_pow]; rfl
  rw [← e] at h1 h2
  omega⟩
theorem Cell.bd {c : Int} (h : Cell c) : Bd c 2097152 := ⟨by
  have h : Builtin.Int.intBits c ≤ 2097152 := h
  by_cases z : c.natAbs = 0
  · rw [z]; exact Nat.pow_pos (by decide)
  · have e : Builtin.Int.intBits c = c.natAbs.log2 + 1 := by
      unfold Builtin.Int.intBits
      rw [if_neg (by simp; omega)]
    rw [e] at h
    exact Nat.lt_of_lt_of_le Nat.lt_log2_self (Nat.pow_le_pow_right (by decide) h)⟩
theorem Cell.of {c : Int} {n : Nat} [i : Bd c n] (h : n ≤ 2097152 := by first | decide +kernel | omega) : Cell c := Nat.le_trans (bits_le i.h) h
/-- all but S stays -/
def Kp (S : List Addr) (M M' : MH) : Prop := ∀ b o, b ∉ S → M b = some o → M' b = some o
theorem Kp.refl (S : List Addr) (M : MH) : Kp S M M := fun _ _ _ h => h
theorem Kp.trans {S : List Addr} {M M1 M2 : MH} (a : Kp S M M1) (b : Kp S M1 M2) : Kp S M M2 := fun x o h e => b x o h (a x o h e)
theorem Kp.mono {S S' : List Addr} {M M1 : MH} (h : ∀ x ∈ S, x ∈ S') (a : Kp S M M1) : Kp S' M M1 := fun x o n e => a x o (fun z => n (h x z)) e
theorem Kp.ext {S : List Addr} {M M1 : MH} (a : Ext M M1) : Kp S M M1 := fun x o _ e => a x o e
theorem Kp.toExt {M M1 : MH} (a : Kp [] M M1) : Ext M M1 := fun x o e => a x o (by simp) e
theorem Kp.new {S : List Addr} {M : MH} {p : Addr} {o : MO} (h : M p = none) : Kp S M (mset M p o) := Kp.ext (ext_new h)
theorem Kp.put {S : List Addr} {M : MH} {p : Addr} {o : MO} (h : p ∈ S) : Kp S M (mset M p o) := fun x u n e => by
  have hx : x ≠ p := by intro z; subst z; exact n h
  rw [mset_ne hx]; exact e
/-- what was new does not count -/
theorem Kp.drop {S : List Addr} {M M' : MH} {p : Addr} (a : Kp (p :: S) M M') (h : M p = none) : Kp S M M' := fun x o n e => a x o (fun z => by
  rcases List.mem_cons.mp z with z | z
  · rw [z, h] at e; cases e
  · exact n z) e
theorem Kp.one {M M' : MH} {p : Addr} (a : Kp [p] M M') (h : M p = none) : Ext M M' := (a.drop h).toExt
theorem Kp.at {S : List Addr} {M M' : MH} {b : Addr} {o : MO} (a : Kp S M M') (e : M b = some o) (n : b ∉ S) : M' b = some o := a b o n e
theorem ne_fresh {M : MH} {p q : Addr} {o : MO} (h : M q = some o) (n : M p = none) : q ≠ p := fun z => by rw [z, n] at h; cases h
/-- a purse: two whole numbers from nought on -/
def Pu (M : MH) (p : Addr) : Prop := ∃ a b : Int, M p = some (.lst [.int a, .int b]) ∧ 0 ≤ a ∧ 0 ≤ b
theorem Pu.kp {S : List Addr} {M M' : MH} {p : Addr} (h : Pu M p) (k : Kp S M M') (n : p ∉ S) : Pu M' p := let ⟨a, b, e, ha, hb⟩ := h; ⟨a, b, k p _ n e, ha, hb⟩
theorem Pu.ext {M M' : MH} {p : Addr} (h : Pu M p) (k : Ext M M') : Pu M' p := let ⟨a, b, e, ha, hb⟩ := h; ⟨a, b, k p _ e, ha, hb⟩
theorem Pu.some {M : MH} {p : Addr} (h : Pu M p) : ∃ o, M p = .some o := let ⟨_, _, e, _⟩ := h; ⟨_, e⟩
theorem Pu.ne {M : MH} {p q : Addr} (h : Pu M p) (n : M q = none) : p ≠ q := let ⟨_, e⟩ := h.some; ne_fresh e n
def spPurse : SpD := fun ds M Q => ∃ c : Int, ds = [.int c] ∧ Cell c ∧ ∀ p M', M p = none → Pu M' p → Ext M M' → Q (.ref p) M'
def spTake : SpD := fun ds M Q => ∃ (p : Addr) (m : Int), ds = [.ref p, .int m] ∧ Pu M p ∧ 0 < m ∧ Lim m ∧ ∀ (r : Int) M', 0 ≤ r → r < m → Pu M' p → Kp [p] M M' → Q (.int r) M'
def gPlus (a b c d : Int) : Int × Int := (a * d + c * b, b * d)
def gTimes (a b c d : Int) : Int × Int := (a * c, b * d)
/-! sums and products in lowest terms -/
theorem cut_mid (ns : List Int) (j k : Nat) : D3.cutD (ns.map D.int) (some (j : Int)) (some (k : Int)) = ((ns.take k).drop j).map D.int := by
  unfold D3.cutD
  rw [HT.sIx_nat, HT.sIx_nat, List.length_map, List.map_drop, List.map_take, List.drop_take]
  by_cases h : k ≤ ns.length
  · rw [Nat.min_eq_left h]
    by_cases hj : j ≤ ns.length
    · rw [Nat.min_eq_left hj]
    · rw [Nat.min_eq_right (by omega), List.drop_of_length_le (by simp), List.drop_of_length_le (by simp; omega), List.take_nil, List.take_nil]
  · rw [Nat.min_eq_right (by omega)]
    by_cases hj : j ≤ ns.length
    · rw [Nat.min_eq_left hj, List.take_of_length_le (by simp), List.take_of_length_le (by simp; omega)]
    · rw [Nat.min_eq_right (by omega), List.drop_of_length_le (by simp), List.drop_of_length_le (by simp; omega), List.take_nil, List.take_nil]
end KA

set_option Elab.async false
set_option linter.all false
set_option maxRecDepth 100000
set_option maxHeartbeats 4000000
namespace D3
open PySem PySem.Spec PyProof.Rows L2
section
variable {X : Cx} {G : Ga} {M : MH} {a b c e o i : Expr} {es rest : List Expr} {pos : Pos} {Q : DK} {Qb : Bool → MH → Prop}
/-! ### in, not in -/
def InL (da db : D) (M : MH) (Qb : Bool → MH → Prop) : Prop := match da, db with
  | .str k, .ref p => (∃ kvs, M p = some (.dic kvs) ∧ Qb (lkD kvs k).isSome M) ∨ (∃ ss : List Str, M p = some (.lst (ss.map D.str)) ∧ Qb (decide (k ∈ ss)) M)
  | .str k, .tup ds => ∃ ss : List Str, ds = ss.map D.str ∧ Qb (decide (k ∈ ss)) M
  | _, _ => False
theorem in_d {k : Str} {p : Addr} {kvs : List (Str × D)} (h : M p = some (.dic kvs)) (q : Qb (lkD kvs k).isSome M) : InL (.str k) (.ref p) M Qb := .inl ⟨kvs, h, q⟩
theorem in_t {k : Str} {ss : List Str} (q : Qb (decide (k ∈ ss)) M) : InL (.str k) (.tup (ss.map D.str)) M Qb := ⟨ss, rfl, q⟩
theorem isl_strs {H : Hp} : ∀ {ss : List Str} {vs : List V}, IsL H (ss.map D.str) vs → vs = ss.map V.str
  | [], vs, h => by rw [List.map_nil, isl_nil] at h; exact h
  | s :: r, vs, h => by
    rw [List.map_cons, isl_cons] at h
    obtain ⟨x, t, rfl, h1, h2⟩ := h
    rw [is_str] at h1; subst h1
    rw [isl_strs h2]; rfl
theorem inV_strs (k : Str) : ∀ ss : List Str, inV (.str k) (ss.map V.str) = decide (k ∈ ss)
  | [] => by simp [inV]
  | s :: r => by
    have ih := inV_strs k r
    unfold inV at ih ⊢
    rw [List.map_cons, List.any_cons, ih]
    show ((s == k) || _) = _
    by_cases h : s = k
    · subst h; simp
    · have : ¬ k = s := fun z => h z.symm
      simp [h, this]
theorem flat_strs (ss : List Str) : (ss.map V.str).all flatV = true := by
  induction ss with
  | nil => rfl
  | cons s r ih => rw [List.map_cons, List.all_cons, ih]; rfl
theorem op_dIn (hu : X.A.units + 1 < cLine) : OpR X (compareOp .In) (fun x y H Q => ∃ a o, y = .ref a ∧ DGet H a x o ∧ Q (.bl o.isSome) H) := by
  intro pins s σ H x y v u Q I rx ry h
  obtain ⟨a, o, rfl, g, q⟩ := h
  cases ry
  exact d_in hu I g rx fun s' I' => ⟨.bl _, H, I', rfl, q⟩
theorem op_dNotIn (hu : X.A.units + 1 < cLine) : OpR X (compareOp .NotIn) (fun x y H Q => ∃ a o, y = .ref a ∧ DGet H a x o ∧ Q (.bl (!o.isSome)) H) := by
  intro pins s σ H x y v u Q I rx ry h
  obtain ⟨a, o, rfl, g, q⟩ := h
  cases ry
  exact d_notIn hu I g rx fun s' I' => ⟨.bl _, H, I', rfl, q⟩
theorem rd_in (neg : Bool) {da db : D} (h : InL da db M fun k M' => Q (.bl (if neg then !k else k)) M') : RD X.K (fun x y H Q => rIn X.K neg x y H Q ∨ ∃ a o, y = .ref a ∧ DGet H a x o ∧ Q (.bl (if neg then !o.isSome else o.isSome)) H) da db M Q := by
  intro H x y kf hx hy m
  unfold InL at h
  split at h
  · rename_i k p
    rw [is_str] at hx; subst hx
    rw [is_ref] at hy; subst hy
    rcases h with ⟨kvs, h1, q⟩ | ⟨ss, h1, q⟩
    · obtain ⟨ys, e1, e2⟩ := m p _ h1
      refine .inr ⟨p, _, rfl, DGet.k (k := Sum.inr k) e1, fun _ => ⟨Grow.refl _, _, M, is_bl.mpr rfl, m, ?_⟩⟩
      rw [e2.some_eq]; exact q
    · obtain ⟨ys, e1, e2⟩ := m p _ h1
      have e3 := isl_strs e2; subst e3
      refine .inl ⟨p, _, rfl, .inl (SqL.of e1), rfl, flat_strs ss, fun _ => ⟨Grow.refl _, _, M, is_bl.mpr rfl, m, ?_⟩⟩
      rw [inV_strs]; exact q
  · rename_i k ds
    obtain ⟨ss, rfl, q⟩ := h
    rw [is_str] at hx; subst hx
    rw [is_tup] at hy
    obtain ⟨p, xs, rfl, e1, e2⟩ := hy
    have e3 := isl_strs e2; subst e3
    refine .inl ⟨p, _, rfl, .inr (SqT.of e1), rfl, flat_strs ss, fun _ => ⟨Grow.refl _, _, M, is_bl.mpr rfl, m, ?_⟩⟩
    rw [inV_strs]; exact q
  · exact h.elim
theorem l_in (hu : X.A.units + 64 < cLine) (h : EV X G M a fun da Ma => EV X G Ma b fun db Mb => InL da db Mb fun k M' => Q (.bl k) M') (hm : behindInMarks .In b = false) : EV X G M (.Compare a [.In] [b] pos) Q :=
  ev_cmp (op_in_seq.or (op_dIn (by omega))) hm (h.mono fun _ _ h1 => h1.mono fun _ _ q => rd_in false q)
theorem l_notin (hu : X.A.units + 64 < cLine) (h : EV X G M a fun da Ma => EV X G Ma b fun db Mb => InL da db Mb fun k M' => Q (.bl (!k)) M') (hm : behindInMarks .NotIn b = false) : EV X G M (.Compare a [.NotIn] [b] pos) Q :=
  ev_cmp (op_notIn_seq.or (op_dNotIn (by omega))) hm (h.mono fun _ _ h1 => h1.mono fun _ _ q => rd_in true q)
theorem InL.mono {da db : D} {Qc : Bool → MH → Prop} (h : InL da db M Qb) (k : ∀ b, Qb b M → Qc b M) : InL da db M Qc := by
  unfold InL at h ⊢
  split at h
  · rcases h with ⟨x, y, z⟩ | ⟨x, y, z⟩
    · exact .inl ⟨x, y, k _ z⟩
    · exact .inr ⟨x, y, k _ z⟩
  · obtain ⟨x, y, z⟩ := h; exact ⟨x, y, k _ z⟩
  · exact h
theorem lt_in (hu : X.A.units + 64 < cLine) (h : EV X G M a fun da Ma => EV X G Ma b fun db Mb => InL da db Mb Qb) (hm : behindInMarks .In b = false) : TV X G M (.Compare a [.In] [b] pos) Qb :=
  tv_cmp (op_in_seq.or (op_dIn (by omega))) hm (h.mono fun _ _ h1 => h1.mono fun _ _ q => rd_in false (InL.mono q fun k q => ⟨k, rfl, q⟩))
theorem lt_notin (hu : X.A.units + 64 < cLine) (h : EV X G M a fun da Ma => EV X G Ma b fun db Mb => InL da db Mb fun k M' => Qb (!k) M') (hm : behindInMarks .NotIn b = false) : TV X G M (.Compare a [.NotIn] [b] pos) Qb :=
  tv_cmp (op_notIn_seq.or (op_dNotIn (by omega))) hm (h.mono fun _ _ h1 => h1.mono fun _ _ q => rd_in true (InL.mono q fun k q => ⟨_, rfl, q⟩))
/-! ### dict(d) -/
theorem bootDict : bootBuiltins "dict" = some (.type "dict") := by decide +kernel
theorem bootSorted : bootBuiltins "sorted" = some (.builtin "sorted") := by decide +kernel
theorem bootList : bootBuiltins "list" = some (.type "list") := by decide +kernel
theorem call_dcopy : CallR X (.type "dict") (fun xs H Q => ∃ a kvs, xs = [.ref a] ∧ H a = some (.dK kvs) ∧ ∀ p, H p = none → Q (.ref p) (upd H p (.dK kvs))) := by
  intro pins s σ H xs us Q I r h
  obtain ⟨a, kvs, rfl, e, q⟩ := h
  obtain ⟨u, rfl, ru⟩ := vals1 r
  cases ru
  exact d_copyOf I (.inl e) fun p s' hp I' => ⟨.ref p, _, I', rfl, q p hp⟩
theorem ev_dictC {p : Pos} (hm : X.mg "dict" = none) (h : AV X G M [e] fun ds M1 => ∃ q kvs, ds = [.ref q] ∧ M1 q = some (.dic kvs) ∧ ∀ r, M1 r = none → Q (.ref r) (mset M1 r (.dic kvs))) (hg : Gl X "dict") (he : starEach [e] X.env = (false, eval e X.env) :: starEach [] X.env) (hpl : (backTo pos (starEach ([] : List Expr) X.env)).any (·.1) = false) :
    EV X G M (.Call (.Name "dict" p) [e] [] pos) Q :=
  ev_callTy call_dcopy hm bootDict (h.mono fun ds M1 ⟨a, kvs, e1, ha, q⟩ => fun H xs kf hx m => by
    subst e1
    obtain ⟨v, rfl, hv⟩ := isl1 hx
    rw [is_ref] at hv; subst hv
    obtain ⟨ys, e1, e2⟩ := m a _ ha
    exact ⟨a, ys, rfl, e1, fun p hp kf' => ⟨grow_new hp, .ref p, mset M1 p (.dic kvs), is_ref.mpr rfl, m.lay hp ⟨ys, upd_same, e2.grow (grow_new hp)⟩, q p (m.fresh hp kf')⟩⟩) hg (by decide) (by decide) he hpl
/-! ### two dicts with the same pairs -/
theorem KvIs.hits {pins : List (Addr × Obj)} {σ : St} {H : Hp} {s : Shared} {A : Around} (I : L2.Inv X pins σ H s) (hu : A.units + 64 < cLine) {full : List (Str × D)} {zs : List (Key × V)} {wb : List (Key × Value)} (kz : KvIs H full zs) (rb : KV zs wb) :
    ∀ {kvs : List (Str × D)} {ys : List (Key × V)} {wa : List (Key × Value)}, KvIs H kvs ys → KV ys wa → (∀ k d, (k, d) ∈ kvs → lkD full k = some d ∧ imm d = true ∧ (pd d).depth ≤ 60) → PySem.W.KeqHits A s wb wa true
  | [], ys, wa, h, r, _ => by
    rw [show ys = [] from h] at r
    cases r
    exact .nil
  | (k, d) :: t, ys, wa, h, r, hall => by
    obtain ⟨v, ys', rfl, i1, h2⟩ := h
    cases r with
    | cons r1 r2 =>
      rename_i q wr
      obtain ⟨qk, qv⟩ := q
      obtain ⟨e1, rv⟩ := r1
      have e1 : Sum.inr k = qk := e1
      subst e1
      obtain ⟨l1, m1, d1⟩ := hall k d (List.mem_cons_self ..)
      obtain ⟨v2, e2, i2⟩ := kz.get l1
      obtain ⟨u2, e3, rv2⟩ := RelO.some_of (v := v2) (o := valueAt wb (Sum.inr k)) (by rw [← e2]; exact rb.val _)
      obtain ⟨as, ra⟩ := reads_of I d v qv i1 rv m1
      obtain ⟨bs, rb'⟩ := reads_of I d v2 u2 i2 rv2 m1
      have eq := PySem.SeqAt.eqAt_reads (pd d) (pd d) A s qv u2 as bs ra rb' (canLay_imm _ m1) (canLay_imm _ m1) (by have := Nat.min_le_left (pd d).depth (pd d).depth; omega)
      rw [PySem.SeqAt.eqv_refl _ (canLay_imm _ m1)] at eq
      have ih := KvIs.hits I hu kz rb h2 r2 fun k d hd => hall k d (List.mem_cons_of_mem _ hd)
      exact .hit e3 eq ih
theorem lt_neDic (hu : X.A.units + 128 < cLine) (h : EV X G M a fun da Ma => EV X G Ma b fun db Mb => ∃ p q kvs, da = .ref p ∧ db = .ref q ∧ Mb p = some (.dic kvs) ∧ Mb q = some (.dic kvs) ∧ (∀ k d, (k, d) ∈ kvs → lkD kvs k = some d ∧ imm d = true ∧ (pd d).depth ≤ 60) ∧ Qb false Mb) : TV X G M (.Compare a [.NotEq] [b] pos) Qb := by
  refine tv_cval (nomark _) fun pins s σ H I R => ?_
  refine thn (h pins s σ H I R) fun v s1 ⟨x, H1, da, Ma, I1, r1, g1, i1, R1, q1⟩ => ?_
  refine thn (q1 pins s1 σ H1 I1 R1) fun u s2 ⟨y, H2, db, Mb, I2, r2, g2, i2, R2, p, q, kvs, e1, e2, hp, hq, hall, qq⟩ => ?_
  subst e1; subst e2
  have i1' := Is.grow g2 _ _ i1
  rw [is_ref] at i1'; subst i1'
  rw [is_ref] at i2; subst i2
  cases r1; cases r2
  obtain ⟨ys, hy, ky⟩ := R2.mem p _ hp
  obtain ⟨zs, hz, kz⟩ := R2.mem q _ hq
  obtain ⟨z1, n1, va, ra, da⟩ := dk_of I2.hok hy
  obtain ⟨z2, n2, vb, rb, db⟩ := dk_of I2.hok hz
  have hl : (va.length == vb.length) = true := by
    rw [← ra.length, ← rb.length, ← ky.len, ← kz.len]; exact beq_self_eq_true _
  refine PySem.W.keq_ne n1 n2 da db (by omega) (fun _ => KvIs.hits I2 (A := X.A.in1) (by show X.A.units + 1 + 64 < _; omega) kz rb ky ra hall) ?_
  rw [hl]
  exact ⟨.bl false, H2, .bl false, Mb, I2, rfl, g1.trans g2, is_bl.mpr rfl, R2, _, rfl, qq⟩
/-! ### methods of lists -/
theorem tyL {K : PySem.W.Frag} {H : Hp} {p : Addr} {xs : List V} (h : H p = some (.lst xs)) : tyV K "list" (.ref p) H := .inl ⟨rfl, xs, SqL.of h⟩
theorem ev_append {apos cpos : Pos} (h : EV X G M o fun d M1 => ∃ p, d = .ref p ∧ (∃ ds, M1 p = some (.lst ds)) ∧ EV X G M1 e fun d2 M2 => ∃ ds, M2 p = some (.lst ds) ∧ ds.length < sizeLine ∧ Q .non (mset M2 p (.lst (ds ++ [d2]))))
    (hbase : attributeBase o "append" X.env (eval o X.env) = eval o X.env)
    (hfew : ((backTo cpos (starEach [e] X.env)).all (fun x => !x.1) && (backToKw cpos (keywordEach [] X.env)).all (fun x => x.1.isSome) && decide (([e] : List Expr).length + ([] : List Keyword).length + (if ([] : List Keyword).isEmpty then 0 else 1) < 30)) = true)
    (hline : (apos.endLine == cpos.line) = true) (hs : starEach [e] X.env = (false, eval e X.env) :: starEach [] X.env) (hplain : (backTo cpos (starEach ([] : List Expr) X.env)).any (·.1) = false) :
    EV X G M (.Call (.Attribute o "append" apos) [e] [] cpos) Q := by
  refine EV.of (pe_bm PySem.F.plainAttrs_list PySem.F.slot_list_append PySem.F.type_list_append mt_append (pe_D (G := G)) (pa_D (G := G) (es := [e])) hbase hfew hline hs hplain) fun σ H kf R => ?_
  refine ⟨M, _, R, h, fun v H' d M' kf' g i R' q => ?_⟩
  obtain ⟨p, rfl, ⟨ds, hds⟩, q⟩ := q
  rw [is_ref] at i; subst i
  obtain ⟨xs, hx, _⟩ := R'.mem p _ hds
  refine ⟨tyL hx, M', fun ds2 M2 => ∃ d2, ds2 = [d2] ∧ ∃ ds, M2 p = some (.lst ds) ∧ ds.length < sizeLine ∧ Q .non (mset M2 p (.lst (ds ++ [d2]))), R', av_cons (q.mono fun d2 M2 q2 => av_nil ⟨d2, rfl, q2⟩) hs, fun vs H2 ds2 M2 kf2 g2 i2 R2 q2 => ?_⟩
  obtain ⟨d2, rfl, ds, hp, hz, q2⟩ := q2
  obtain ⟨v2, rfl, hv2⟩ := isl1 i2
  obtain ⟨xs, hx, hxi⟩ := R2.mem p _ hp
  have nt : ∀ ys, H2 p ≠ some (.tup ys) := fun ys z => by rw [hx] at z; cases z
  have gu : Grow H2 (upd H2 p (.lst (xs ++ [v2]))) := grow_upd nt
  exact ⟨p, xs, v2, rfl, rfl, hx, by rw [← hxi.len]; exact hz, fun _ => ⟨(g.trans g2).trans gu, .non, _, is_non.mpr rfl, R2.mem.put (u := .lst (ds ++ [d2])) nt ⟨_, upd_same, (hxi.grow gu).app (isl_cons.mpr ⟨v2, [], rfl, Is.grow gu _ _ hv2, isl_nil.mpr rfl⟩)⟩, q2⟩⟩
/-! ### tuple(xs), list(t), sorted(xs) -/
theorem ev_tupleC {p : Pos} (hm : X.mg "tuple" = none) (h : AV X G M [e] fun ds M1 => ∃ d, ds = [d] ∧ match d with
      | .ref q => ∃ es, M1 q = some (.lst es) ∧ Q (.tup es) M1
      | .tup es => Q (.tup es) M1
      | _ => False) (hg : Gl X "tuple") (he : starEach [e] X.env = (false, eval e X.env) :: starEach [] X.env) (hpl : (backTo pos (starEach ([] : List Expr) X.env)).any (·.1) = false) :
    EV X G M (.Call (.Name "tuple" p) [e] [] pos) Q :=
  ev_callTy call_tuple_of hm bootTuple (h.mono fun ds M1 ⟨d, e1, q⟩ => fun H xs kf hx m => by
    subst e1
    obtain ⟨v, rfl, hv⟩ := isl1 hx
    cases d with
    | ref a =>
      obtain ⟨es, ha, q⟩ := q
      rw [is_ref] at hv; subst hv
      obtain ⟨ys, e1, e2⟩ := m a _ ha
      exact ⟨a, ys, rfl, .inl ⟨SqL.of e1, fun p hp kf' => ⟨grow_new hp, .tup es, M1, is_tup.mpr ⟨p, ys, rfl, upd_same, e2.grow (grow_new hp)⟩, m.new hp, q⟩⟩⟩
    | tup es =>
      have hv' := hv
      rw [is_tup] at hv
      obtain ⟨a, ys, rfl, e1, e2⟩ := hv
      exact ⟨a, ys, rfl, .inr ⟨SqT.of e1, fun _ => ⟨Grow.refl _, .tup es, M1, hv', m, q⟩⟩⟩
    | non => exact q.elim
    | bl _ => exact q.elim
    | int _ => exact q.elim
    | str _ => exact q.elim
    | ty _ => exact q.elim) hg (by decide) (by decide) he hpl
theorem ev_listC {p : Pos} (hm : X.mg "list" = none) (h : AV X G M [e] fun ds M1 => ∃ d, ds = [d] ∧ match d with
      | .ref q => ∃ es, M1 q = some (.lst es) ∧ ∀ r, M1 r = none → Q (.ref r) (mset M1 r (.lst es))
      | .tup es => ∀ r, M1 r = none → Q (.ref r) (mset M1 r (.lst es))
      | _ => False) (hg : Gl X "list") (he : starEach [e] X.env = (false, eval e X.env) :: starEach [] X.env) (hpl : (backTo pos (starEach ([] : List Expr) X.env)).any (·.1) = false) :
    EV X G M (.Call (.Name "list" p) [e] [] pos) Q :=
  ev_callTy call_list_of hm bootList (h.mono fun ds M1 ⟨d, e1, q⟩ => fun H xs kf hx m => by
    subst e1
    obtain ⟨v, rfl, hv⟩ := isl1 hx
    cases d with
    | ref a =>
      obtain ⟨es, ha, q⟩ := q
      rw [is_ref] at hv; subst hv
      obtain ⟨ys, e1, e2⟩ := m a _ ha
      exact ⟨a, ys, rfl, .inl (SqL.of e1), fun p hp kf' => ⟨grow_new hp, .ref p, mset M1 p (.lst es), is_ref.mpr rfl, m.lay hp ⟨ys, upd_same, e2.grow (grow_new hp)⟩, q p (m.fresh hp kf')⟩⟩
    | tup es =>
      rw [is_tup] at hv
      obtain ⟨a, ys, rfl, e1, e2⟩ := hv
      exact ⟨a, ys, rfl, .inr (SqT.of e1), fun p hp kf' => ⟨grow_new hp, .ref p, mset M1 p (.lst es), is_ref.mpr rfl, m.lay hp ⟨ys, upd_same, e2.grow (grow_new hp)⟩, q p (m.fresh hp kf')⟩⟩
    | non => exact q.elim
    | bl _ => exact q.elim
    | int _ => exact q.elim
    | str _ => exact q.elim
    | ty _ => exact q.elim) hg (by decide) (by decide) he hpl
theorem IsL.strs {H : Hp} : ∀ {ss : List Str}, IsL H (ss.map D.str) (ss.map V.str)
  | [] => isl_nil.mpr rfl
  | s :: r => isl_cons.mpr ⟨.str s, r.map V.str, rfl, is_str.mpr rfl, IsL.strs⟩
theorem strs_of_vals : ∀ {ss : List Str} {us : List Value}, Vals (ss.map V.str) us → StrsAre us ss
  | [], us, r => by cases r; exact .nil
  | s :: r, us, h => by
    cases h with
    | cons h1 h2 =>
      obtain ⟨t, rfl⟩ := h1
      exact .cons s t (strs_of_vals h2)
theorem vals_of_strs : ∀ {ss : List Str} {us : List Value}, StrsAre us ss → Vals (ss.map V.str) us
  | _, _, .nil => .nil
  | _, _, .cons y t r => .cons ⟨t, rfl⟩ (vals_of_strs r)
theorem call_sortedS : CallR X (.builtin "sorted") (fun xs H Q => ∃ (a : Addr) (ss : List Str), xs = [.ref a] ∧ H a = some (.lst (ss.map V.str)) ∧ ss.length < 64 ∧ ∀ p ss', H p = none → ss'.Perm ss → PyProof.Rows.sortedS ss' = true → Q (.ref p) (upd H p (.lst (ss'.map V.str)))) := by
  intro pins s σ H xs us Q I r h
  obtain ⟨a, ss, rfl, e, h64, q⟩ := h
  obtain ⟨u, rfl, ru⟩ := vals1 r
  cases ru
  obtain ⟨z, its, n, rv, hl, eo⟩ := I.lstM e
  have hl2 : its.length = ss.length := by rw [← hl, List.length_map]
  refine sorted_strs (l := a) (vs := its) ⟨_, eo, rfl, n, rfl⟩ (strs_of_vals rv) (by omega) fun out ss' h1 h2 h3 => ?_
  obtain ⟨en, he⟩ := sortedAll_at s.heap its out
  have hf : H (s.heap.objs.size + 1) = none := I.hok.fresh (Nat.le_succ _)
  refine ⟨.ref (s.heap.objs.size + 1), _, I.laid (a := s.heap.objs.size + 1) (o := .lst (ss'.map V.str)) (t' := s.toks) (fun b ob hb => sortedAll_old hb) (Nat.le_succ _) ⟨?_, out.toList, en, vals_of_strs h1, ?_⟩, rfl, q _ ss' hf h2 h3⟩
  · rw [List.length_map, h2.length_eq]; rw [List.length_map] at z; exact z
  · rw [he]
theorem ev_sortedS {p : Pos} (hm : X.mg "sorted" = none) (h : AV X G M [e] fun ds M1 => ∃ (q : Addr) (ss : List Str), ds = [.ref q] ∧ M1 q = some (.lst (ss.map D.str)) ∧ ss.length < 64 ∧ ∀ r ss', M1 r = none → ss'.Perm ss → PyProof.Rows.sortedS ss' = true → Q (.ref r) (mset M1 r (.lst (ss'.map D.str)))) (hg : Gl X "sorted") (he : starEach [e] X.env = (false, eval e X.env) :: starEach [] X.env) (hpl : (backTo pos (starEach ([] : List Expr) X.env)).any (·.1) = false) :
    EV X G M (.Call (.Name "sorted" p) [e] [] pos) Q :=
  ev_callB call_sortedS hm bootSorted (h.mono fun ds M1 ⟨a, ss, e1, ha, h64, q⟩ => fun H xs kf hx m => by
    subst e1
    obtain ⟨v, rfl, hv⟩ := isl1 hx
    rw [is_ref] at hv; subst hv
    obtain ⟨ys, e1, e2⟩ := m a _ ha
    have e3 := isl_strs e2; subst e3
    refine ⟨a, ss, rfl, e1, h64, fun p ss' hp h1 h2 kf' => ⟨grow_new hp, .ref p, mset M1 p (.lst (ss'.map D.str)), is_ref.mpr rfl, m.lay hp ⟨_, upd_same, ?_⟩, q p ss' (m.fresh hp kf') h1 h2⟩⟩
    exact IsL.strs) hg (by decide) (by decide) he hpl
end
end D3

set_option Elab.async false
set_option linter.all false
set_option maxRecDepth 100000
set_option maxHeartbeats 4000000
namespace D3
open PySem PySem.Spec PyProof.Rows L2
/-! ### comprehensions that take names from around -/
def clOf (env : Env) : List (Str × NameKind) → List (Str × Addr) → List (Str × Addr)
  | [], acc => acc
  | (n, k) :: r, acc => clOf env r (if k == .free then (n, (env.cells.lookup n).getD 0) :: acc else acc)
theorem closure_loop (env : Env) : ∀ (names : List (Str × NameKind)) (acc : List (Str × Addr)), (∀ x ∈ names, x.2 = .free → (env.cells.lookup x.1).isSome = true) →
    (forIn names acc fun (x : Str × NameKind) (r : List (Str × Addr)) => (match x with
      | (name, kind) => if (kind == NameKind.free) = true then do let c ← cellOf env name; pure (ForInStep.yield ((name, c) :: r)) else pure (ForInStep.yield r) : Sem (ForInStep (List (Str × Addr))))) = pure (clOf env names acc)
  | [], acc, _ => rfl
  | (n, k) :: r, acc, h => by
    rw [List.forIn_cons]
    have ih := fun acc' => closure_loop env r acc' fun x hx => h x (List.mem_cons_of_mem _ hx)
    unfold clOf
    by_cases e : (k == NameKind.free) = true
    · have hc := h (n, k) (List.mem_cons_self ..) (by simpa using e)
      obtain ⟨c, hc⟩ := Option.isSome_iff_exists.mp hc
      have hc : env.cells.lookup n = some c := hc
      rw [if_pos e, hc]
      have : cellOf env n = pure c := by unfold cellOf; rw [hc]
      simp only [e, if_true, this]
      exact ih _
    · rw [if_neg e]
      simp only [e, if_false]
      exact ih _
theorem closureFor_of {scope : Scope} {env : Env} (h : ∀ x ∈ scope.names, x.2 = .free → (env.cells.lookup x.1).isSome = true) : closureFor scope env = pure (clOf env scope.names []) := by
  have := closure_loop env scope.names [] h
  simp only [closureFor]
  simpa using this
theorem clOf_sub (env : Env) (x : Str) (c : Addr) : ∀ (names : List (Str × NameKind)) (acc : List (Str × Addr)), (∀ y ∈ names, y.2 = .free → (env.cells.lookup y.1).isSome = true) → (∀ c, acc.lookup x = some c → env.cells.lookup x = some c) → (clOf env names acc).lookup x = some c → env.cells.lookup x = some c
  | [], acc, _, ha, h => ha c h
  | (n, k) :: r, acc, hn, ha, h => by
    unfold clOf at h
    refine clOf_sub env x c r _ (fun y hy => hn y (List.mem_cons_of_mem _ hy)) (fun c' hc' => ?_) h
    by_cases e : (k == NameKind.free) = true
    · rw [if_pos e, List.lookup_cons] at hc'
      by_cases hx : (x == n) = true
      · rw [hx] at hc'
        have hx' : x = n := by simpa using hx
        subst hx'
        obtain ⟨d, hd⟩ := Option.isSome_iff_exists.mp (hn (x, k) (List.mem_cons_self ..) (by simpa using e))
        have hd : env.cells.lookup x = some d := hd
        rw [hd] at hc' ⊢
        simpa using hc'
      · have hx : (x == n) = false := by simpa using hx
        rw [hx] at hc'
        exact ha c' hc'
    · rw [if_neg e] at hc'
      exact ha c' hc'
theorem clOf_has (env : Env) (x : Str) : ∀ (names : List (Str × NameKind)) (acc : List (Str × Addr)), ((x, NameKind.free) ∈ names ∨ (acc.lookup x).isSome = true) → ((clOf env names acc).lookup x).isSome = true
  | [], acc, h => by rcases h with h | h; cases h; exact h
  | (n, k) :: r, acc, h => by
    unfold clOf
    refine clOf_has env x r _ ?_
    rcases h with h | h
    · rcases List.mem_cons.mp h with h | h
      · cases h
        refine .inr ?_
        rw [if_pos (show (NameKind.free == NameKind.free) = true from rfl), List.lookup_cons, beq_self_eq_true]; rfl
      · exact .inl h
    · refine .inr ?_
      split
      · rw [List.lookup_cons]
        cases x == n
        · exact h
        · rfl
      · exact h
theorem mem_of_lookup' {α β : Type} [BEq α] [LawfulBEq α] {k : α} {v : β} : ∀ {l : List (α × β)}, l.lookup k = some v → (k, v) ∈ l
  | [], h => by cases h
  | (a, b) :: r, h => by
    rw [List.lookup_cons] at h
    cases e : k == a with
    | true =>
      rw [e] at h
      have : k = a := by simpa using e
      subst this
      cases h
      exact List.mem_cons_self ..
    | false => rw [e] at h; exact List.mem_cons_of_mem _ (mem_of_lookup' h)
section
variable {X : Cx} {G : Ga} {M : MH} {elt tg iter e : Expr} {ifs : List Expr} {scope : Scope} {pos : Pos} {Q : DK} {own : List Str} {js : List Nat} {N : List Str}
/-- .. its names from around are the slots js of the def, all of them kept in cells -/
theorem compOk_free {fs : List Str} (hk : scope.kind = .function) (hn : ∀ x ∈ scope.names, x.2 = .local → scope.names.lookup x.1 = some .local) (hcell : ∀ x ∈ scope.names, x.2 ≠ .cell)
    (hf : ∀ x ∈ scope.names, x.2 = .free → (X.env.cells.lookup x.1).isSome = true)
    (hN : N = own ++ fs) (hl : fs.length = js.length) (hj : ∀ (k j : Nat), js[k]? = some j → ∃ x, fs[k]? = some x ∧ X.N[j]? = some x ∧ X.env.kindOf x = some .cell ∧ X.env.scope.names.lookup x = some .cell ∧ scope.names.lookup x = some .free)
    (hfun : X.env.scope.kind = .function) : CompOk X own js N scope (clOf X.env scope.names []) := by
  refine ⟨closureFor_of hf, hk, hn, hcell, fun x c e => clOf_sub X.env x c scope.names [] hf (fun c z => by cases z) e, fun x h => ?_, fun k j e => ?_, by rw [hN, List.length_append, hl]⟩
  · refine Option.isSome_iff_exists.mp (clOf_has X.env x scope.names [] (.inl ?_))
    have : ∃ k, (x, k) ∈ (relabel scope X.env).names ∧ (k = .cell ∨ k = .free) := by
      rcases h with h | h
      · exact ⟨_, mem_of_lookup' h, .inl rfl⟩
      · exact ⟨_, mem_of_lookup' h, .inr rfl⟩
    obtain ⟨k, hm, hk⟩ := this
    unfold relabel at hm
    obtain ⟨⟨n, q⟩, hq, he⟩ := List.mem_map.mp hm
    have he : (if (q == NameKind.free && X.env.scope.kind == .function && X.env.kindOf n == some .cell) = true then (n, NameKind.cell) else (n, q)) = (x, k) := he
    split at he
    · rename_i hc
      injection he with e1 e2
      subst e1
      have : q = .free := by
        rw [Bool.and_eq_true, Bool.and_eq_true] at hc
        simpa using hc.1.1
      rw [this] at hq; exact hq
    · injection he with e1 e2
      subst e1; subst e2
      rcases hk with hk | hk
      · exact absurd hk (hcell _ hq)
      · rw [hk] at hq; exact hq
  · obtain ⟨x, h1, h2, h3, h4, h5⟩ := hj k j e
    refine ⟨x, ?_, h2, .inr (.inl h4), fun m h u lk => ?_, ?_⟩
    · rw [hN, List.getElem?_append_right (by omega), show own.length + k - own.length = k by omega]; exact h1
    · rcases lk with ⟨z, _⟩ | ⟨_, c, hc, hi⟩
      · rw [h3] at z; cases z
      · obtain ⟨c', hc'⟩ := Option.isSome_iff_exists.mp (clOf_has X.env x scope.names [] (.inl (mem_of_lookup' h5)))
        have := clOf_sub X.env x c' scope.names [] hf (fun c z => by cases z) hc'
        rw [hc] at this; cases this
        exact ⟨c, hc', hi⟩
    · refine .inl ?_
      have : ∀ names : List (Str × NameKind), names.lookup x = some .free → (names.map fun (y : Str × NameKind) => match y with | (n, k) => if (k == NameKind.free && X.env.scope.kind == .function && X.env.kindOf n == some .cell) = true then (n, NameKind.cell) else (n, k)).lookup x = some .cell := by
        intro names hl
        induction names with
        | nil => cases hl
        | cons y r ih =>
          obtain ⟨n, q⟩ := y
          rw [List.lookup_cons] at hl
          rw [List.map_cons]
          cases en : x == n with
          | true =>
            rw [en] at hl
            have hx : x = n := by simpa using en
            subst hx
            injection hl with hl
            subst hl
            have hc : (NameKind.free == NameKind.free && X.env.scope.kind == .function && X.env.kindOf x == some .cell) = true := by rw [hfun, h3]; rfl
            simp only [hc, if_true]
            rw [List.lookup_cons, beq_self_eq_true]
          | false =>
            rw [en] at hl
            have ih := ih hl
            simp only
            split
            · rw [List.lookup_cons, en]; exact ih
            · rw [List.lookup_cons, en]; exact ih
      exact this scope.names h5
theorem compOk_freeB {fs : List Str} (hk : scope.kind = .function) (hnB : (scope.names.all fun x => !(x.2 == .local) || scope.names.lookup x.1 == some .local) = true) (hcB : (scope.names.all fun x => !(x.2 == .cell)) = true)
    (hfB : (scope.names.all fun x => !(x.2 == .free) || (X.env.cells.lookup x.1).isSome) = true)
    (hN : N = own ++ fs) (hl : fs.length = js.length) (hjB : ((fs.zip js).all fun y => (X.N[y.2]? == some y.1) && (X.env.kindOf y.1 == some .cell) && (X.env.scope.names.lookup y.1 == some .cell) && (scope.names.lookup y.1 == some .free)) = true)
    (hfun : X.env.scope.kind = .function) : CompOk X own js N scope (clOf X.env scope.names []) := by
  refine compOk_free (fs := fs) hk (fun x hx e => ?_) (fun x hx e => ?_) (fun x hx e => ?_) hN hl (fun k j e => ?_) hfun
  · have := List.all_eq_true.mp hnB x hx
    rw [e] at this
    simpa using this
  · have := List.all_eq_true.mp hcB x hx
    rw [e] at this
    cases this
  · have := List.all_eq_true.mp hfB x hx
    rw [e] at this
    simpa using this
  · have hkl : k < fs.length := by rw [hl]; exact (List.getElem?_eq_some_iff.mp e).1
    have hz : (fs.zip js)[k]? = some (fs[k], j) := by
      rw [List.getElem?_zip_eq_some]
      exact ⟨List.getElem?_eq_getElem hkl, e⟩
    have := List.all_eq_true.mp hjB _ (List.mem_of_getElem? hz)
    rw [Bool.and_eq_true, Bool.and_eq_true, Bool.and_eq_true] at this
    obtain ⟨⟨⟨h1, h2⟩, h3⟩, h4⟩ := this
    exact ⟨fs[k], List.getElem?_eq_getElem hkl, by simpa using h1, by simpa using h2, by simpa using h3, by simpa using h4⟩
/-- [.. for x in range(n) ..] -/
theorem ev_comp_range {cl : List (Str × Addr)} {p p2 : Pos} (T : CompOk X own js N scope cl) (hxe : X.xe = fun _ _ => False) (hc : X.calm = true) (hm : X.mg "range" = none) (f : D → D) (pr : D → Bool)
    (h : AV X G M [e] fun as M1 => ∃ n : Int, as = [.int n] ∧ 0 ≤ n ∧ n < 1000 ∧
      (∀ Y : Cx, (∃ C s H fp, Y = compCx X N scope cl C s H fp) → ∀ M', Ext M1 M' → ∀ i : Nat, i < n.toNat → GV Y (compG own js G) M' tg (.int i) fun G3 M3 => M3 = M' ∧ Sub (compG own js G) G3 ∧ TVs Y G3 M' ifs (fun k M4 => M4 = M' ∧ k = pr (.int i)) ∧ (pr (.int i) = true → EV Y G3 M' elt fun o M4 => M4 = M' ∧ o = f (.int i))) ∧
      ∀ q, M1 q = none → Q (.ref q) (mset M1 q (.lst ((((List.range n.toNat).map fun i : Nat => D.int i).filter pr).map f))))
    (hg : Gl X "range") (hse : starEach [e] X.env = [(false, eval e X.env)]) (hs : ∀ x, foldedSetIterable (.Call (.Name "range" p) [e] [] p2) X.env x = pure x) : EV X G M (.ListComp elt [⟨tg, .Call (.Name "range" p) [e] [] p2, ifs, 0⟩] scope pos) Q := by
  refine ev_comp T hxe hc (pi_range1 hg hm (pa_D (G := G)) hse) f pr (fun σ H kf R => ?_) hs
  refine ⟨M, _, R, h, fun vs H' ds M' kf' g i R' q => ?_⟩
  obtain ⟨n, e, h1, h2, block, fin⟩ := q
  subst e
  obtain ⟨v, rfl, hv⟩ := isl1 i
  rw [is_int] at hv; subst hv
  refine ⟨n, rfl, by omega, by omega, g, M', (List.range n.toNat).map fun i : Nat => D.int i, R', fun H2 g2 m2 => ⟨fun i e => ?_, fun i hlt => ⟨?_, fun x H3 y => ?_⟩⟩, by rw [List.length_map, List.length_range]; exact KA.small (by omega), fun Y hY M2 hM d hd => ?_, fin⟩
  · show n.toNat ≤ i
    rw [e, List.length_map, List.length_range]; exact Nat.le_refl _
  · show i < n.toNat
    simpa using hlt
  · obtain ⟨e, y⟩ := y
    subst e; subst y
    have hlt' : i < n.toNat := by simpa using hlt
    exact ⟨Grow.refl _, fun _ _ z => z, m2, .int i, by rw [List.getElem?_map, List.getElem?_range hlt']; rfl, is_int.mpr (by simp)⟩
  · obtain ⟨i, hi, e⟩ := List.mem_map.mp hd
    subst e
    exact block Y hY M2 hM i (List.mem_range.mp hi)
/-! ### the signs of a text -/
def Its (x : Str) : It := ⟨fun i _ => ∃ c, x.cps[i]? = some c, fun i H v H' => H' = H ∧ ∃ c, x.cps[i]? = some c ∧ v = .str ⟨#[c]⟩, fun i _ => x.cps[i]? = none⟩
theorem turn_str {P : Program} {w : World} {K : PySem.W.Frag} {tg : Expr} (it : Addr) (x : Str) (t : Tok) : Turn P w K tg (Its x) [it] it (fun i h => h.IsStrIter it "str_ascii_iterator" x t i) where
  mem := by simp
  obj := fun i h st b hb => by
    have e : b = it := by simpa using hb
    subst e
    obtain ⟨o, e, c, d⟩ := st
    exact ⟨o, e, fun v z => by rw [d] at z; cases z⟩
  keep := fun i h h' st k => let ⟨o, e, c, d⟩ := st; ⟨o, k it (by simp) o e, c, d⟩
  item := by
    intro X hP hw hK hc i pins s σ H E I hf st hg
    subst hP hw hK
    obtain ⟨c, hx⟩ := hg
    obtain ⟨f0, f1, f2, f3, f4, f5⟩ := hf it (by simp)
    refine wpAny_pyNext_ascii_item st hx fun h' st' sb => ?_
    have I1 : L2.Inv X pins σ H { s with heap := h', toks := s.toks + 1 } := I.turned (t' := s.toks + 1) (fun b o hb e => (sb.2 b hb).trans e) f0 f1 f3 f4 f5
    obtain ⟨o, e, c', d⟩ := id st'
    exact ⟨_, rfl, go_of (s := { s with heap := h', toks := s.toks + 1 }) e c' d (by decide) ⟨.str ⟨#[c]⟩, H, I1, ⟨_, rfl⟩, ⟨rfl, c, hx, rfl⟩, st', fun b hb => (hf b hb).1⟩⟩
  done := by
    intro X hP hw hK hc i pins s σ H E I hf st hg
    subst hP hw hK
    obtain ⟨f0, f1, f2, f3, f4, f5⟩ := hf it (by simp)
    exact wpAny_pyNext_ascii_end (I.ok.hd hc) st hg fun h' eb => ⟨rfl, I.turned (t' := s.toks) (fun b o hb e => eb b o hb e) f0 f1 f3 f4 f5⟩
  self := fun _ _ _ _ _ st h => wpAny_pyIter_striter_ascii st h
def iStr (tl : TE) : TI := fun σ H R => tl σ H fun x H1 => ∃ z, x = .str z ∧ z.cps.all (· < 128) = true ∧ R (Its z) H1
theorem pi_str {l : Expr} {tl : TE} (hl : PE X l tl) : PI X tg l (iStr tl) := by
  intro pins s σ H R I h
  refine thn (hl pins s σ H _ I h) fun v s1 ⟨x, H1, I1, r1, q1⟩ => ?_
  obtain ⟨z, e, ha, q⟩ := q1
  subst e
  obtain ⟨t, rfl⟩ := r1
  refine wpAny_pyIter_ascii ha ?_
  refine ⟨s1.heap.objs.size, [s1.heap.objs.size], _, _, H1, rfl, I1.kept (t' := s1.toks) fun b o e => Heap.get?_push_of_some _ e, turn_str _ z t, ⟨_, Heap.get?_push_size _ rfl, rfl, rfl⟩, fun b hb => ?_, q⟩
  have e : b = s1.heap.objs.size := by simpa using hb
  subst e
  exact I1.fpOk (Nat.le_refl _) (I1.hok.fresh (Nat.le_refl _))
theorem ev_comp_str {cl : List (Str × Addr)} (T : CompOk X own js N scope cl) (hxe : X.xe = fun _ _ => False) (hc : X.calm = true) (f : D → D) (pr : D → Bool)
    (h : EV X G M iter fun d M1 => ∃ z : Str, d = .str z ∧ z.cps.all (· < 128) = true ∧ z.cps.size ≤ 1000 ∧
      (∀ Y : Cx, (∃ C s H fp, Y = compCx X N scope cl C s H fp) → ∀ M', Ext M1 M' → ∀ c ∈ z.cps.toList, GV Y (compG own js G) M' tg (.str ⟨#[c]⟩) fun G3 M3 => M3 = M' ∧ Sub (compG own js G) G3 ∧ TVs Y G3 M' ifs (fun k M4 => M4 = M' ∧ k = pr (.str ⟨#[c]⟩)) ∧ (pr (.str ⟨#[c]⟩) = true → EV Y G3 M' elt fun o M4 => M4 = M' ∧ o = f (.str ⟨#[c]⟩))) ∧
      ∀ q, M1 q = none → Q (.ref q) (mset M1 q (.lst (((z.cps.toList.map fun c => D.str ⟨#[c]⟩).filter pr).map f))))
    (hs : ∀ x, foldedSetIterable iter X.env x = pure x) : EV X G M (.ListComp elt [⟨tg, iter, ifs, 0⟩] scope pos) Q := by
  refine ev_comp T hxe hc (pi_str (pe_D (G := G))) f pr (fun σ H kf R => ?_) hs
  refine ⟨M, _, R, h, fun v H' d M' kf' g i R' q => ?_⟩
  obtain ⟨z, e, ha, hz, block, fin⟩ := q
  subst e
  rw [is_str] at i; subst i
  refine ⟨z, rfl, ha, g, M', z.cps.toList.map fun c => D.str ⟨#[c]⟩, R', fun H2 g2 m2 => ⟨fun i e => ?_, fun i hlt => ⟨?_, fun x H3 y => ?_⟩⟩, by rw [List.length_map, Array.length_toList]; exact KA.small hz, fun Y hY M2 hM d hd => ?_, fin⟩
  · show z.cps[i]? = none
    rw [e, List.length_map, Array.length_toList]; simp
  · show ∃ c, z.cps[i]? = some c
    have hlt' : i < z.cps.size := by simpa using hlt
    exact ⟨z.cps[i], by simp [hlt']⟩
  · obtain ⟨e, c, hcc, y⟩ := y
    subst e; subst y
    exact ⟨Grow.refl _, fun _ _ z => z, m2, .str ⟨#[c]⟩, by rw [List.getElem?_map, Array.getElem?_toList, hcc]; rfl, is_str.mpr rfl⟩
  · obtain ⟨c, hcc, e⟩ := List.mem_map.mp hd
    subst e
    exact block Y hY M2 hM c hcc
end
end D3

set_option Elab.async false
set_option linter.all false
set_option maxRecDepth 100000
set_option maxHeartbeats 4000000
/-! names, terms, sums, rows, points -/
namespace KA
open PySem PySem.Spec PyProof.Rows L2 D3 K01
def tD (t : Str × Int) : D := .tup [.str t.1, .int t.2]
abbrev trm (ts : List (Str × Int)) : D := .tup (ts.map tD)
abbrev nms (ss : List Str) : D := .tup (ss.map D.str)
def Letter (s : Str) : Prop := ∃ c, 97 ≤ c ∧ c ≤ 122 ∧ s = ⟨#[c]⟩
structure Names (ss : List Str) : Prop where
  pos : 1 ≤ ss.length
  le : ss.length ≤ 3
  nodup : ss.Nodup
  lett : ∀ s ∈ ss, Letter s
/-- terms of some of the names, in their order -/
structure Terms (ss : List Str) (ts : List (Str × Int)) : Prop where
  sub : (ts.map (·.1)).Sublist ss
  wt : ∀ t ∈ ts, t.2 ≠ 0 ∧ B 64 t.2
theorem Terms.len {ss : List Str} {ts : List (Str × Int)} (h : Terms ss ts) : ts.length ≤ ss.length := by
  have := h.sub.length_le; rw [List.length_map] at this; exact this
theorem Terms.mem {ss : List Str} {ts : List (Str × Int)} (h : Terms ss ts) {t : Str × Int} (ht : t ∈ ts) : t.1 ∈ ss := h.sub.subset (List.mem_map_of_mem ht)
def Frn (d : D) (x y : Int) : Prop := d = fr x y ∧ 0 < y ∧ Int.gcd x y = 1 ∧ B 134 x ∧ B 40 y
/-- what the point has for a name -/
def atP (kvs : List (Str × D)) (s : Str) : Int × Int := match lkD kvs s with
  | some (.tup [.int x, .int y]) => (x, y)
  | _ => (0, 1)
def Has (kvs : List (Str × D)) (s : Str) : Prop := ∃ d x y, lkD kvs s = some d ∧ Frn d x y
theorem Has.at {kvs : List (Str × D)} {s : Str} (h : Has kvs s) : lkD kvs s = some (fr (atP kvs s).1 (atP kvs s).2) ∧ 0 < (atP kvs s).2 ∧ B 134 (atP kvs s).1 ∧ B 40 (atP kvs s).2 := by
  obtain ⟨d, x, y, h1, rfl, h2, h3, h4, h5⟩ := h
  have e : atP kvs s = (x, y) := by unfold atP; rw [h1]
  rw [e]
  exact ⟨h1, h2, h4, h5⟩
/-- added up crosswise -/
def addUp (kvs : List (Str × D)) : List (Str × Int) → Int → Int → Int × Int
  | [], t, b => (t, b)
  | u :: r, t, b => addUp kvs r (t * (atP kvs u.1).2 + u.2 * (atP kvs u.1).1 * b) (b * (atP kvs u.1).2)
theorem addUp_snoc (kvs : List (Str × D)) (u : Str × Int) : ∀ (r : List (Str × Int)) (t b : Int), addUp kvs (r ++ [u]) t b = ((addUp kvs r t b).1 * (atP kvs u.1).2 + u.2 * (atP kvs u.1).1 * (addUp kvs r t b).2, (addUp kvs r t b).2 * (atP kvs u.1).2)
  | [], t, b => rfl
  | v :: r, t, b => addUp_snoc kvs u r _ _
theorem addUp_bounds (kvs : List (Str × D)) : ∀ (r : List (Str × Int)) (t b : Int) (i : Nat), (∀ u ∈ r, Has kvs u.1 ∧ B 64 u.2) → 0 < b → B (200 + 41 * i) t → B (40 * i + 1) b → 0 < (addUp kvs r t b).2 ∧ B (200 + 41 * (i + r.length)) (addUp kvs r t b).1 ∧ B (40 * (i + r.length) + 1) (addUp kvs r t b).2
  | [], t, b, i, _, hb, ht, hb2 => ⟨hb, ht, hb2⟩
  | u :: r, t, b, i, h, hb, ht, hb2 => by
    obtain ⟨h1, h2⟩ := h u (List.mem_cons_self ..)
    obtain ⟨_, hy, bx, by'⟩ := h1.at
    have e1 : 200 + 41 * (i + 1) = (200 + 41 * i + 40) + 1 := by omega
    have e2 : 40 * (i + 1) + 1 = (40 * i + 1) + 40 := by omega
    have ih := addUp_bounds kvs r (t * (atP kvs u.1).2 + u.2 * (atP kvs u.1).1 * b) (b * (atP kvs u.1).2) (i + 1) (fun v hv => h v (List.mem_cons_of_mem _ hv)) (Int.mul_pos hb hy) (by
      rw [e1]
      refine B.add (B.mul ht by') (B.up ?_ (B.mul (B.mul h2 bx) hb2))
      omega) (by rw [e2]; exact B.mul hb2 by')
    have e3 : i + 1 + r.length = i + (u :: r).length := by rw [List.length_cons]; omega
    rw [e3] at ih
    exact ih
def spCell : SpD := fun ds M Q => ∃ (l : Addr) (ns : List Int) (k : Int), ds = [.ref l, .int k] ∧ M l = some (.ro (ns.map D.int)) ∧ (∀ n ∈ ns, Cell n) ∧ ns.length ≤ 63 ∧ 0 ≤ k ∧ ∀ c, Cell c → Q (.int c) M
def spNumber : SpD := fun ds M Q => ∃ p, ds = [.ref p] ∧ Pu M p ∧ ∀ n M', B 64 n → Pu M' p → Kp [p] M M' → Q (.int n) M'
def spTerms : SpD := fun ds M Q => ∃ p ss, ds = [.ref p, nms ss] ∧ Pu M p ∧ ss.length ≤ 3 ∧ ∀ ts M', Terms ss ts → Pu M' p → Kp [p] M M' → Q (trm ts) M'
def spSum : SpD := fun ds M Q => ∃ p ss, ds = [.ref p, nms ss] ∧ Pu M p ∧ ss.length ≤ 3 ∧ ∀ ts w b M', Terms ss ts → B 64 w → 0 < b → B 64 b → Pu M' p → Kp [p] M M' → Q (.tup [trm ts, .int w, .int b]) M'
def word (k : Bool) : Str := if k then "least" else "more"
def spRow : SpD := fun ds M Q => ∃ p ss, ds = [.ref p, nms ss] ∧ Pu M p ∧ ss.length ≤ 3 ∧ ∀ k ts w M', Terms ss ts → B 64 w → Pu M' p → Kp [p] M M' → Q (.tup [.str (word k), trm ts, .int w]) M'
def spNames : SpD := fun ds M Q => ∃ c, ds = [.int c] ∧ Cell c ∧ ∀ ss M', Names ss → Ext M M' → Q (nms ss) M'
/-- a point that has the terms' names -/
def AllHas (kvs : List (Str × D)) (ts : List (Str × Int)) : Prop := ts.length ≤ 3 ∧ ∀ t ∈ ts, Has kvs t.1 ∧ B 64 t.2
theorem AllHas.bounds {kvs : List (Str × D)} {ts : List (Str × Int)} (h : AllHas kvs ts) (w : Int) (hw : B 64 w) : 0 < (addUp kvs ts w 1).2 ∧ B 400 (addUp kvs ts w 1).1 ∧ B 200 (addUp kvs ts w 1).2 := by
  obtain ⟨h1, h2, h3⟩ := addUp_bounds kvs ts w 1 0 h.2 (by decide) (B.up (by decide) hw) (by unfold B; decide)
  have := h.1
  exact ⟨h1, B.up (by omega) h2, B.up (by omega) h3⟩
theorem AllHas.take {kvs : List (Str × D)} {ts : List (Str × Int)} (h : AllHas kvs ts) (i : Nat) : AllHas kvs (ts.take i) := ⟨by have := h.1; rw [List.length_take]; omega, fun t ht => h.2 t (List.mem_of_mem_take ht)⟩
theorem lkD_mem {k : Str} {d : D} : ∀ {kvs : List (Str × D)}, (kvs.map (·.1)).Nodup → (k, d) ∈ kvs → lkD kvs k = some d
  | [], _, h => by cases h
  | (x, e) :: r, nd, h => by
    rw [lkD_cons]
    rw [List.map_cons, List.nodup_cons] at nd
    rcases List.mem_cons.mp h with h | h
    · cases h; rw [if_pos rfl]
    · rw [if_neg (fun z => nd.1 (by subst z; exact List.mem_map_of_mem (f := (·.1)) h))]
      exact lkD_mem nd.2 h
theorem lkD_none {k : Str} : ∀ {kvs : List (Str × D)}, k ∉ kvs.map (·.1) → lkD kvs k = none
  | [], h => rfl
  | (x, e) :: r, h => by
    rw [List.map_cons] at h
    rw [lkD_cons, if_neg (fun z => h (by subst z; exact List.mem_cons_self ..))]
    exact lkD_none fun z => h (List.mem_cons_of_mem _ z)
/-- of four letters one is none of three names -/
theorem spare4 {a b c d : Str} (h1 : a ≠ b) (h2 : a ≠ c) (h3 : a ≠ d) (h4 : b ≠ c) (h5 : b ≠ d) (h6 : c ≠ d) {ss : List Str} (h : ss.length ≤ 3) : ¬ (a ∈ ss ∧ b ∈ ss ∧ c ∈ ss ∧ d ∈ ss) := by
  intro ⟨ha, hb, hc, hd⟩
  match ss, h with
  | [], _ => cases ha
  | [x], _ => simp at ha hb; exact h1 (ha.trans hb.symm)
  | [x, y], _ =>
    simp at ha hb hc
    rcases ha with rfl | rfl <;> rcases hb with rfl | rfl <;> rcases hc with rfl | rfl <;> simp_all
  | [x, y, z], _ =>
    simp at ha hb hc hd
    rcases ha with rfl | rfl | rfl <;> rcases hb with rfl | rfl | rfl <;> rcases hc with rfl | rfl | rfl <;> rcases hd with rfl | rfl | rfl <;> simp_all
end KA
namespace KA
open PySem PySem.Spec PyProof.Rows L2 D3 K01
abbrev rowD (k : Bool) (ts : List (Str × Int)) (b : Int) : D := .tup [.str (word k), trm ts, .int b]
def negT (ts : List (Str × Int)) : List (Str × Int) := ts.map fun t => (t.1, -t.2)
end KA

set_option Elab.async false
set_option linter.all false
set_option maxRecDepth 100000
set_option maxHeartbeats 4000000
namespace D3
open PySem PySem.Spec PyProof.Rows L2
/-! ### a, b = a list -/
section
variable {P : Program} {w : World} {B : Around} {Z : Value → Shared → Prop}
end
section
variable {X : Cx} {G : Ga} {M : MH} {pos : Pos}
end
end D3
namespace D3
open PySem PySem.Spec PyProof.Rows L2
end D3
namespace KA
open PySem PySem.Spec PyProof.Rows L2 D3 K01
theorem Letter.ok {s : Str} (h : Letter s) : PyData.strOk s = true := by
  obtain ⟨c, h1, h2, rfl⟩ := h
  simp [PyData.strOk]
  omega
theorem AllHas.neg {kvs : List (Str × D)} {ts : List (Str × Int)} (h : AllHas kvs ts) : AllHas kvs (negT ts) := by
  refine ⟨by unfold negT; rw [List.length_map]; exact h.1, fun t ht => ?_⟩
  obtain ⟨u, hu, rfl⟩ := List.mem_map.mp ht
  exact ⟨(h.2 u hu).1, B.neg (h.2 u hu).2⟩
end KA

set_option Elab.async false
set_option linter.all false
set_option maxRecDepth 100000
set_option maxHeartbeats 4000000
namespace KA
open PySem PySem.Spec PyProof.Rows L2 D3 K01
/-! sums and products by the short way -/
theorem one_of {k : Nat} {x y : Int} (h1 : (k : Int) ∣ x) (h2 : (k : Int) ∣ y) (g : Int.gcd x y = 1) : k = 1 := Nat.dvd_one.mp (g ▸ Int.dvd_gcd h1 h2)
theorem cop_of {x y : Int} (h : ∀ k : Nat, (k : Int) ∣ x → (k : Int) ∣ y → k = 1) : Int.gcd x y = 1 := h _ (Int.gcd_dvd_left ..) (Int.gcd_dvd_right ..)
theorem cop_sub {x y u v : Int} (g : Int.gcd x y = 1) (hu : u ∣ x) (hv : v ∣ y) : Int.gcd u v = 1 := cop_of fun k h1 h2 => one_of (Int.dvd_trans h1 hu) (Int.dvd_trans h2 hv) g
theorem cop_mul {x y z : Int} (h1 : Int.gcd x y = 1) (h2 : Int.gcd x z = 1) : Int.gcd x (y * z) = 1 := by
  show Nat.gcd _ _ = 1
  rw [Int.natAbs_mul]
  exact Nat.Coprime.mul_right (k := x.natAbs) h1 h2
theorem cop_comm {x y : Int} (h : Int.gcd x y = 1) : Int.gcd y x = 1 := by rw [Int.gcd_comm]; exact h
theorem cop_mul2 {x u y z : Int} (h1 : Int.gcd x y = 1) (h2 : Int.gcd x z = 1) (h3 : Int.gcd u y = 1) (h4 : Int.gcd u z = 1) : Int.gcd (x * u) (y * z) = 1 :=
  cop_comm (cop_mul (cop_comm (cop_mul h1 h2)) (cop_comm (cop_mul h3 h4)))
/-- divided by the greatest common divisor -/
theorem cop_div {x y : Int} (hy : y ≠ 0) : Int.gcd (x.fdiv (Int.gcd x y : Nat)) (y.fdiv (Int.gcd x y : Nat)) = 1 := by
  have e1 : x.fdiv (Int.gcd x y : Nat) * (Int.gcd x y : Nat) = x := Int.fdiv_mul_cancel_of_dvd (Int.gcd_dvd_left ..)
  have e2 : y.fdiv (Int.gcd x y : Nat) * (Int.gcd x y : Nat) = y := Int.fdiv_mul_cancel_of_dvd (Int.gcd_dvd_right ..)
  have h := Int.gcd_mul_right (x.fdiv (Int.gcd x y : Nat)) ((Int.gcd x y : Nat) : Int) (y.fdiv (Int.gcd x y : Nat))
  rw [e1, e2, Int.natAbs_natCast] at h
  have g : 0 < Int.gcd x y := gcd_pos hy
  exact Nat.eq_of_mul_eq_mul_right g (by rw [Nat.one_mul]; exact h.symm)
theorem pos_div {x g : Int} (hx : 0 < x) (hg : 0 < g) (h : g ∣ x) : 0 < x.fdiv g := by
  have e : x.fdiv g * g = x := Int.fdiv_mul_cancel_of_dvd h
  refine Int.lt_of_not_ge fun z => ?_
  have := Int.mul_nonpos_of_nonpos_of_nonneg z (Int.le_of_lt hg)
  omega
theorem plus_is {a b c d : Int} (hb : 0 < b) (hd : 0 < d) (h1 : Int.gcd a b = 1) (h2 : Int.gcd c d = 1) {s l t g : Int} (es : s = (Int.gcd b d : Nat)) (el : l = b.fdiv s) (et : t = a * d.fdiv s + c * l) (eg : g = (Int.gcd t s : Nat)) :
    0 < s ∧ 0 < g ∧ s.natAbs ≤ b.natAbs ∧ g.natAbs ≤ s.natAbs ∧ tp (a * d + c * b) (b * d) = t.fdiv g ∧ bt (a * d + c * b) (b * d) = l * d.fdiv g := by
  have hs : 0 < s := by have := gcd_pos (t := b) (b := d) (by omega); omega
  have hg : 0 < g := by have := gcd_pos (t := t) (b := s) (by omega); omega
  have sb : s ∣ b := by rw [es]; exact Int.gcd_dvd_left ..
  have sd : s ∣ d := by rw [es]; exact Int.gcd_dvd_right ..
  have gt : g ∣ t := by rw [eg]; exact Int.gcd_dvd_left ..
  have gs : g ∣ s := by rw [eg]; exact Int.gcd_dvd_right ..
  have lsb : s ≤ b := Int.le_of_dvd hb sb
  have lgs : g ≤ s := Int.le_of_dvd hs gs
  have c1 : Int.gcd l (d.fdiv s) = 1 := by rw [el, es]; exact cop_div (by omega)
  have c2 : Int.gcd (t.fdiv g) (s.fdiv g) = 1 := by rw [eg]; exact cop_div (by omega)
  have e1 : l * s = b := by rw [el]; exact Int.fdiv_mul_cancel_of_dvd sb
  have e2 : d.fdiv s * s = d := Int.fdiv_mul_cancel_of_dvd sd
  have e3 : t.fdiv g * g = t := Int.fdiv_mul_cancel_of_dvd gt
  have e4 : s.fdiv g * g = s := Int.fdiv_mul_cancel_of_dvd gs
  have e5 : d.fdiv g * g = d := Int.fdiv_mul_cancel_of_dvd (Int.dvd_trans gs sd)
  have p5 : 0 < d.fdiv g := pos_div hd hg (Int.dvd_trans gs sd)
  have p1 : 0 < l := by rw [el]; exact pos_div hb hs sb
  generalize d.fdiv s = d1 at *
  generalize t.fdiv g = t1 at *
  generalize s.fdiv g = s1 at *
  generalize d.fdiv g = d2 at *
  have e6 : d2 = d1 * s1 := by
    apply Int.eq_of_mul_eq_mul_right (a := g) (by omega)
    rw [e5, Int.mul_assoc, e4, e2]
  have c3 : Int.gcd t1 l = 1 := cop_of fun k k1 k2 => by
    have kt : (k : Int) ∣ t := by rw [← e3]; exact Int.dvd_trans k1 (Int.dvd_mul_right ..)
    have ka : (k : Int) ∣ a * d1 := by
      have : a * d1 = t - c * l := by rw [et]; omega
      rw [this]
      exact Int.dvd_sub kt (Int.dvd_trans k2 (Int.dvd_mul_left ..))
    have kc : Int.gcd d1 (k : Int) = 1 := cop_comm (cop_sub c1 k2 (Int.dvd_refl _))
    have ka' : (k : Int) ∣ a := dvd_cop (by rw [Int.mul_comm]; exact ka) kc
    exact one_of ka' (Int.dvd_trans k2 ⟨s, e1.symm⟩) h1
  have c4 : Int.gcd t1 d1 = 1 := cop_of fun k k1 k2 => by
    have kt : (k : Int) ∣ t := by rw [← e3]; exact Int.dvd_trans k1 (Int.dvd_mul_right ..)
    have ka : (k : Int) ∣ c * l := by
      have : c * l = t - a * d1 := by rw [et]; omega
      rw [this]
      exact Int.dvd_sub kt (Int.dvd_trans k2 (Int.dvd_mul_left ..))
    have kc : Int.gcd l (k : Int) = 1 := cop_sub c1 (Int.dvd_refl _) k2
    have ka' : (k : Int) ∣ c := dvd_cop (by rw [Int.mul_comm]; exact ka) kc
    exact one_of ka' (Int.dvd_trans k2 ⟨s, e2.symm⟩) h2
  refine ⟨hs, hg, by omega, by omega, made_is (Int.mul_ne_zero (by omega) (by omega)) (Int.mul_pos p1 p5) ?_ ?_⟩
  · rw [e6]; exact cop_mul c3 (cop_mul c4 c2)
  · grind
theorem times_is {a b c d : Int} (hb : 0 < b) (hd : 0 < d) (h1 : Int.gcd a b = 1) (h2 : Int.gcd c d = 1) {p q : Int} (ep : p = (Int.gcd a d : Nat)) (eq : q = (Int.gcd c b : Nat)) :
    0 < p ∧ 0 < q ∧ p.natAbs ≤ d.natAbs ∧ q.natAbs ≤ b.natAbs ∧ tp (a * c) (b * d) = a.fdiv p * c.fdiv q ∧ bt (a * c) (b * d) = b.fdiv q * d.fdiv p := by
  have hp : 0 < p := by have := gcd_pos (t := a) (b := d) (by omega); omega
  have hq : 0 < q := by have := gcd_pos (t := c) (b := b) (by omega); omega
  have pa : p ∣ a := by rw [ep]; exact Int.gcd_dvd_left ..
  have pd : p ∣ d := by rw [ep]; exact Int.gcd_dvd_right ..
  have qc : q ∣ c := by rw [eq]; exact Int.gcd_dvd_left ..
  have qb : q ∣ b := by rw [eq]; exact Int.gcd_dvd_right ..
  have lpd : p ≤ d := Int.le_of_dvd hd pd
  have lqb : q ≤ b := Int.le_of_dvd hb qb
  have c1 : Int.gcd (a.fdiv p) (d.fdiv p) = 1 := by rw [ep]; exact cop_div (by omega)
  have c2 : Int.gcd (c.fdiv q) (b.fdiv q) = 1 := by rw [eq]; exact cop_div (by omega)
  have e1 : a.fdiv p * p = a := Int.fdiv_mul_cancel_of_dvd pa
  have e2 : d.fdiv p * p = d := Int.fdiv_mul_cancel_of_dvd pd
  have e3 : c.fdiv q * q = c := Int.fdiv_mul_cancel_of_dvd qc
  have e4 : b.fdiv q * q = b := Int.fdiv_mul_cancel_of_dvd qb
  have p2 : 0 < d.fdiv p := pos_div hd hp pd
  have p4 : 0 < b.fdiv q := pos_div hb hq qb
  generalize a.fdiv p = a1 at *
  generalize d.fdiv p = d1 at *
  generalize c.fdiv q = c1 at *
  generalize b.fdiv q = b1 at *
  refine ⟨hp, hq, by omega, by omega, made_is (Int.mul_ne_zero (by omega) (by omega)) (Int.mul_pos p4 p2) ?_ ?_⟩
  · exact cop_mul2 (cop_sub h1 ⟨p, e1.symm⟩ ⟨q, e4.symm⟩) ‹_› ‹_› (cop_sub h2 ⟨q, e3.symm⟩ ⟨p, e2.symm⟩)
  · grind
/-- one quotient, one fraction -/
theorem made_eq {t b t' b' : Int} (hb : b ≠ 0) (hb' : b' ≠ 0) (h : t * b' = t' * b) : tp t b = tp t' b' ∧ bt t b = bt t' b' := by
  refine made_is hb (bt_pos hb') (coprime hb') ?_
  have c := cross t' b'
  apply Int.eq_of_mul_eq_mul_right hb'
  calc tp t' b' * b * b' = (tp t' b' * b') * b := by rw [Int.mul_right_comm]
    _ = t' * bt t' b' * b := by rw [c]
    _ = (t' * b) * bt t' b' := by rw [Int.mul_right_comm]
    _ = t * b' * bt t' b' := by rw [h]
    _ = t * bt t' b' * b' := by rw [Int.mul_right_comm]
theorem gcd_abs (a b : Int) : Int.gcd (a.natAbs : Int) b = Int.gcd a b := by
  show Nat.gcd _ _ = Nat.gcd _ _
  rw [Int.natAbs_natCast]
theorem tp_one {t : Int} : tp t 1 = t ∧ bt t 1 = 1 := made_is (by decide) (by decide) (by rw [Int.gcd_one]) (by omega)

/-- sums, differences and products of fractions in lowest terms -/
def spArL (g : Int → Int → Int → Int → Int × Int) : SpD := fun ds M Q => ∃ a b c d : Int, ds = [fr a b, fr c d] ∧ 0 < b ∧ 0 < d ∧ Int.gcd a b = 1 ∧ Int.gcd c d = 1 ∧ B 3000 a ∧ B 3000 b ∧ B 3000 c ∧ B 3000 d ∧ Q (fr (tp (g a b c d).1 (g a b c d).2) (bt (g a b c d).1 (g a b c d).2)) M
end KA

set_option Elab.async false
set_option linter.all false
set_option maxRecDepth 100000
set_option maxHeartbeats 4000000
/-! an exception that leaves a frame: what stays -/
namespace X1
open PySem
section
variable {M : Model} {A : Around} {E : Value → Shared → Prop} {s : Shared}
/-- an exception's object: its class, its own dict, its record, its newest traceback (if any) at rest -/
def ExcAt (h : Heap) (e : Addr) (C : Value) (dd : Option Addr) : Prop :=
  ∃ oe vs, h.get? e = some oe ∧ oe.cls = C ∧ oe.dict = dd ∧ oe.data = .fields vs ∧ 1 < vs.size ∧
    (vs[1]? = some .none ∨ ∃ T oT ts, vs[1]? = some (.ref T) ∧ T ≠ e ∧ h.get? T = some oT ∧ oT.data = .fields ts ∧ ts[3]? = some .none)
/-- of all but e nothing changes but slots of S -/
def Passed (S : List Addr) (e : Addr) (h h' : Heap) : Prop :=
  (∀ b o, h.get? b = some o → b ≠ e → b ∉ S → h'.get? b = some o) ∧ ∀ b o, h.get? b = some o → b ≠ e → ∃ sl, h'.get? b = some { o with slots := sl }
theorem entry {base : Heap} {env : Env} {outer : List Env} {L e : Addr} {oe : Obj} {vs : Array Value} {head : Value} {hadNext : Bool} {Q : Unit → Shared → Prop}
    (hfr : A.frames = some (env :: outer)) (hl : s.heap.FunFrames base (env :: outer)) (hf : env.frame = some L)
    (he : s.heap.get? e = some oe) (hd : oe.data = .fields vs) (hsz : 1 < vs.size)
    (h : ∀ h', Passed ((env :: outer).filterMap (·.frame)) e s.heap h' → ExcAt h' e oe.cls oe.dict → Q () { s with heap := h' }) :
    wpAny M A (do let a ← frameOf env; let pl ← entryPlaceOf L hadNext; let b ← EntryCells.newEntry head a .none (rawInt L) .none pl; setField (.ref e) 1 b) (fun _ s' => wpAny M A (setFlight (.ref e) none) Q E s') E s := by
  have hene : e ∉ (env :: outer).filterMap (·.frame) := fun hm => by
    obtain ⟨_, o, ho, hnf⟩ := hl.mem hm
    rw [he] at ho; cases ho; exact hnf vs hd
  refine wpAny_bind (wpAny_frameOf_fun hfr hl hf fun h₁ hs₁ => wpAny_bind (wpAny_entryPlaceOf fun pl hpl => ?_))
  unfold EntryCells.newEntry newFields
  refine wpAny_bind (wpAny_newObj_type ?_ (hpl.sizeOk5 _ _ _ _ _))
  have he₁ : h₁.get? e = some oe := (hs₁.2.1 e hene).trans he
  generalize htb : ({ cls := .type "traceback", dict := none, data := .fields ([head, .ref L, .none, rawInt L, .none] ++ (if pl.isEmpty then List.replicate 6 Value.none else pl)).toArray } : Obj) = tb
  have htd : tb.data = .fields ([head, .ref L, .none, rawInt L, .none] ++ (if pl.isEmpty then List.replicate 6 Value.none else pl)).toArray := by rw [← htb]
  have he₂ := Heap.get?_push_of_some tb he₁
  refine wpAny_setField he₂ hd hsz ?_
  have hTe : h₁.objs.size ≠ e := Nat.ne_of_gt (Heap.lt_size he₁)
  have hd₃ := Obj.data_mapFields hd (·.setIfInBounds 1 (Value.ref h₁.objs.size))
  have he₃ := Heap.get?_update_self (Obj.mapFields (·.setIfInBounds 1 (Value.ref h₁.objs.size))) he₂ (Obj.isFreed_of_fields hd₃)
  have hfr' : tb.isFreed = false := Obj.isFreed_of_fields htd
  have hT₃ := (Heap.get?_update_other (h₁.push tb) (Obj.mapFields (·.setIfInBounds 1 (Value.ref h₁.objs.size))) (Ne.symm hTe)).trans (Heap.get?_push_size h₁ hfr')
  unfold setFlight
  refine wpAny_bind (wpAny_field he₃ hd₃ (x := .ref h₁.objs.size) (by simp [hsz]) ?_)
  rw [if_pos (show (Value.ref h₁.objs.size != Value.none) = true from by simp)]
  refine wpAny_setField hT₃ htd (by simp only [List.size_toArray, List.length_append, List.length_cons, List.length_nil] <;> omega) (h _ ?_ ?_)
  · have keep : ∀ b o, b ≠ e → h₁.get? b = some o → (((h₁.push tb).update e (Obj.mapFields (·.setIfInBounds 1 (Value.ref h₁.objs.size)))).update h₁.objs.size
        (Obj.mapFields (·.setIfInBounds 3 ((none : Option Addr).elim Value.none fun f => rawInt f)))).get? b = some o := fun b o hbe hb => by
      rw [Heap.get?_update_other _ _ (Nat.ne_of_gt (Heap.lt_size hb)), Heap.get?_update_other _ _ (Ne.symm hbe)]
      exact Heap.get?_push_of_some _ hb
    refine ⟨fun b o hb hbe hbS => keep b o hbe ((hs₁.2.1 b hbS).trans hb), fun b o hb hbe => ?_⟩
    obtain ⟨sl, hs⟩ := hs₁.2.2 b o hb
    exact ⟨sl, keep b _ hbe hs⟩
  · refine ⟨_, _, ?_, Obj.cls_mapFields _ _, ?_, hd₃, by simp [hsz], .inr ⟨h₁.objs.size, _, _, by simp [hsz], hTe, Heap.get?_update_self _ hT₃ (Obj.isFreed_of_fields (Obj.data_mapFields htd _)), Obj.data_mapFields htd _, ?_⟩⟩
    · rw [Heap.get?_update_other _ _ hTe]; exact he₃
    · obtain ⟨c, d, dt, sl⟩ := oe
      simp only at hd
      subst hd
      rfl
    · first | (simp; done) | (rcases hpl with rfl | ⟨_, _, _, _, _, _, _, rfl⟩ <;> simp)
theorem note {base : Heap} {env : Env} {outer : List Env} {L e : Addr} {C : Value} {dd : Option Addr} {Q : Unit → Shared → Prop}
    (hfr : A.frames = some (env :: outer)) (hl : s.heap.FunFrames base (env :: outer)) (hf : env.frame = some L) (hx : ExcAt s.heap e C dd)
    (h : ∀ h', Passed ((env :: outer).filterMap (·.frame)) e s.heap h' → ExcAt h' e C dd → Q () { s with heap := h' }) : wpAny M A (noteFrame (.ref e) env) (fun _ s₂ => wpAny M A (setFlight (.ref e) none) Q E s₂) E s := by
  obtain ⟨oe, vs, he, rfl, rfl, hd, hsz, hv⟩ := hx
  unfold noteFrame
  simp only [hf]
  rcases hv with h1 | ⟨T, oT, ts, h1, hTe, hT, hdT, h3⟩
  · refine wpAny_bind (wpAny_field he hd h1 ?_)
    rw [if_neg (by decide)]
    exact entry hfr hl hf he hd hsz h
  · refine wpAny_bind (wpAny_field he hd h1 ?_)
    rw [if_pos (show (Value.ref T != Value.none) = true from by simp)]
    refine wpAny_bind (wpAny_field hT hdT h3 ?_)
    rw [if_neg (show ¬ ((Value.none == rawInt L) = true) from by simp [rawInt])]
    refine wpAny_bind (wpAny_setField hT hdT (Array.getElem?_eq_some_iff.mp h3).1 ?_)
    have same := Heap.update_setField_same s.heap T oT ts 3 .none hT hdT h3
    rw [same]
    exact entry hfr hl hf he hd hsz h
theorem leave {base : Heap} {env : Env} {outer : List Env} {L e : Addr} {C : Value} {dd : Option Addr} {Q : Unit → Shared → Prop}
    (hfr : A.frames = some (env :: outer)) (hl : s.heap.FunFrames base (env :: outer)) (hf : env.frame = some L) (hx : ExcAt s.heap e C dd)
    (h : ∀ h', Passed ((env :: outer).filterMap (·.frame)) e s.heap h' → ExcAt h' e C dd → Q () { s with heap := h' }) : wpAny M A (leaving env (.ref e)) Q E s := by
  unfold leaving
  exact wpAny_bind (note hfr hl hf hx h)
/-- at rest already -/
theorem rest {e : Addr} {C : Value} {dd : Option Addr} {Q : Unit → Shared → Prop} (hx : ExcAt s.heap e C dd) (h : Q () s) : wpAny M A (setFlight (.ref e) none) Q E s := by
  obtain ⟨oe, vs, he, rfl, rfl, hd, hsz, hv⟩ := hx
  unfold setFlight
  rcases hv with h1 | ⟨T, oT, ts, h1, hTe, hT, hdT, h3⟩
  · refine wpAny_bind (wpAny_field he hd h1 ?_)
    rw [if_neg (by decide)]
    exact wpAny_pure h
  · refine wpAny_bind (wpAny_field he hd h1 ?_)
    rw [if_pos (show (Value.ref T != Value.none) = true from by simp)]
    refine wpAny_setField hT hdT (Array.getElem?_eq_some_iff.mp h3).1 ?_
    have same := Heap.update_setField_same s.heap T oT ts 3 .none hT hdT h3
    show Q () { s with heap := s.heap.update T (Obj.mapFields (·.setIfInBounds 3 Value.none)) }
    rw [same]
    exact h
end
end X1

set_option Elab.async false
set_option linter.all false
set_option maxRecDepth 100000
set_option maxHeartbeats 4000000
/-! an own error class under an own one under ValueError, with an __init__ of its own: made, raised; its fields -/
namespace X1
open PySem PySem.W Builtin Builtin.ObjectAttr
abbrev VE : List Value := [.type "ValueError", .type "Exception", .type "BaseException", .type "object"]
/-- such a class: its object -/
structure Err (K : Frag) (C P : Addr) : Prop where
  ex : ∃ nm q N bs sn sub ab col dd k0 k1 k2 k3 k5, K.lookup C = some (excClassObj nm q C N bs (.ref P :: VE) true sn sub ab col dd k0 k1 k2 k3 k5 "ValueError.__new__")
section
variable {K : Frag} {M : Model} {A : Around} {E : Value → Shared → Prop} {h : Heap} {g : Array GenState} {d : Drawn} {t : Nat} {os : OsState} {C P : Addr}
theorem look (X : K.In h) {name : Str} {y : Option Value} {Q : Option Value → Shared → Prop} (hf : findIn K (.ref C) name = some y) (hq : Q y ⟨h, g, d, t, os⟩) : wpAny M A (typeLookup (.ref C) name) Q E ⟨h, g, d, t, os⟩ := (looks_findIn X hf).here hq
end
section
variable {K : Frag} {prog : Program} {w : World} {A : Around} {E : Value → Shared → Prop} {h : Heap} {g : Array GenState} {d : Drawn} {t : Nat} {os : OsState} {C P x : Addr} {mA : Str → Option Value} {name : Str} {v : Value}
theorem new_check {M : Model} {rest : List Value} {Q : Unit → Shared → Prop} (X : K.In h) (e : Err K C P) (hq : Q () ⟨h, g, d, t, os⟩) : wpAny M A (checkBuiltinCall "ValueError.__new__" ⟨.ref C :: rest, []⟩) Q E ⟨h, g, d, t, os⟩ := by
  obtain ⟨nm, q, N, bs, sn, sub, ab, col, dd, k0, k1, k2, k3, k5, hC⟩ := e.ex
  have hC := X _ _ hC
  have FF := F.excBase_ValueError
  have hcont : (Value.ref C :: .ref P :: VE).contains (.type "ValueError") = true := by simp [VE]
  have hstar := FF.noStar
  simp only [checkBuiltinCall, FF.newKind, FF.newSplit, FF.newRow]
  repeat (first | (refine wpAny_isSubtype_exc hC ?_; rw [hcont]) | refine wpAny_loadPart_at hC ?_ | refine wpAny_madeBy_exc hC ?_ | refine wpAny_staticBase_exc hC ?_ | simp only [bne_self_eq_false, Bool.false_eq_true, if_false] | wp_step)
  exact hq
theorem new_code {R : Result → Shared → Prop} {rest : List Value} (X : K.In h) (e : Err K C P)
    (hq : R (.ok (.ret (.ref (h.objs.size + 1)))) ⟨(h.push { cls := .type "tuple", data := .seq rest.toArray }).push { cls := .ref C, data := .fields #[.ref h.objs.size, .none, .none, .none, .bool false, .none] }, g, d, t, os⟩) (hrest : rest.length ≤ sizeLine) :
    codeAny (model prog w) A (.builtin "ValueError.__new__" ⟨.ref C :: rest, []⟩) R ⟨h, g, d, t, os⟩ := by
  obtain ⟨nm, q, N, bs, sn, sub, ab, col, dd, k0, k1, k2, k3, k5, hC⟩ := e.ex
  have hC := X _ _ hC
  have FF := F.excBase_ValueError
  have hends := FF.ends
  have hcB : (Value.ref C :: .ref P :: VE).contains (.type "ValueError") = true := by simp [VE]
  have hcA : (Value.ref C :: .ref P :: VE).contains (.type "AttributeError") = false := by simp [VE]
  have hcN : (Value.ref C :: .ref P :: VE).contains (.type "NameError") = false := by simp [VE]
  refine codeAny_builtinAt FF.entry ?_
  unfold Builtin.«BaseException.__new__»
  refine wpAt_bind ?_
  show wpAt _ _ _ (stack >>= _) _ _ _
  refine wpAt_bind (wpAt_stack fun p below => wpAt_of_wpAny ?_)
  wp_walk
  refine wpAt_of_wpAny ?_
  rw [FF.owner]
  repeat (first | (with_reducible refine wpAny_isSubtype_exc hC ?_; first | rw [hcB] | rw [hcA] | rw [hcN]) | with_reducible refine wpAny_madeHere_exc FF.canon hC ?_ | with_reducible refine wpAny_loadPart_at hC ?_ | wp_step)
  show R _ _
  rw [Heap.size_push]
  exact hq
theorem type_call {rest : List Value} {fI : Addr} {oI : Obj} {Q : Fin → Shared → Prop} (X : K.In h) (e : Err K C P) (hi : findIn K (.ref C) "__init__" = some (some (.ref fI))) (hfI : K.lookup fI = some oI) (hfc : oI.cls = .type "function")
    (hq : ∀ h', Heap.MadeExcOf h h' (h.objs.size + 1) (.ref C) rest → wpAny (model prog w) A (call (.ref fI) (.ref (h.objs.size + 1) :: rest)) (fun r s' => r = .none ∧ Q (.done (.ret (.ref (h.objs.size + 1)))) s') E ⟨h', g, d, t, os⟩) (hrest : rest.length ≤ sizeLine) :
    wpAny (model prog w) A (Builtin.«type.__call__» ⟨.ref C :: rest, []⟩) Q E ⟨h, g, d, t, os⟩ := by
  obtain ⟨nm, q, N, bs, sn, sub, ab, col, dd, k0, k1, k2, k3, k5, hC0⟩ := e.ex
  have hC := X _ _ hC0
  have FF := F.excBase_ValueError
  repeat (first | with_reducible refine wpAny_madeBy_exc hC ?_ | with_reducible refine wpAny_loadPart_at hC ?_ | wp_step)
  refine codeAny_call_builtin_code (Code.quiet_builtin _ FF.quiet) (new_check X e (new_code X e ?_ hrest))
  show wpAny _ _ _ _ _ _
  generalize htp : ({ cls := .type "tuple", data := .seq rest.toArray } : Obj) = tp
  generalize hex : ({ cls := .ref C, data := .fields #[.ref h.objs.size, .none, .none, .none, .bool false, .none] } : Obj) = ex
  have keep : ∀ b o, h.get? b = some o → ((h.push tp).push ex).get? b = some o := fun b o hb => Heap.get?_push_of_some _ (Heap.get?_push_of_some _ hb)
  have X₁ : K.In ((h.push tp).push ex) := X.keeps keep
  have hC₁ := keep _ _ hC
  have hfI₁ := X₁ _ _ hfI
  have hget : ((h.push tp).push ex).get? (h.objs.size + 1) = some ex := by
    rw [← Heap.size_push h tp]
    exact Heap.get?_push_size _ (by rw [← hex]; rfl)
  have hcC : (Value.ref C :: .ref P :: VE).contains (.ref C) = true := by simp
  have hec : ex.cls = .ref C := by rw [← hex]
  unfold isInstance
  repeat (first | (with_reducible refine wpAny_isSubtype_exc hC₁ ?_; rw [hcC]) | (with_reducible refine wpAny_loadPart_at hget ?_; rw [hec]) | wp_step)
  show wpAny _ _ (typeLookup (.ref C) _) _ _ _
  refine look X₁ hi (wpAny_holding (wpAny_bind ?_))
  unfold bindSpecial
  refine wpAny_bind (wpAny_typeOf (T := "function") ⟨_, hfI₁, hfc⟩ ?_)
  rw [if_pos (by decide)]
  refine wpAny_pure (wpAny_bind (wpAny_mono (hq _ ⟨keep, Heap.get?_none_of_le (Nat.le_succ _), h.objs.size, by rw [hget, ← hex], Heap.get?_none_of_le (Nat.le_refl _), ?_⟩) (fun r s' hr => ?_) fun _ _ x => x))
  · refine Heap.get?_push_of_some _ ?_
    rw [← htp]
    exact Heap.get?_push_size _ rfl
  · obtain ⟨rfl, hQ⟩ := hr
    wp_walk
    exact hQ
theorem make_exc {rest : List Value} {fI : Addr} {oI : Obj} {Q : Value → Shared → Prop} (X : K.In h) (e : Err K C P) (hi : findIn K (.ref C) "__init__" = some (some (.ref fI))) (hfI : K.lookup fI = some oI) (hfc : oI.cls = .type "function")
    (hq : ∀ h', Heap.MadeExcOf h h' (h.objs.size + 1) (.ref C) rest →
      wpAny (model prog w) (A.under (.builtin "type.__call__" ⟨.ref C :: rest, []⟩)) (call (.ref fI) (.ref (h.objs.size + 1) :: rest)) (fun r s' => r = .none ∧ Q (.ref (h.objs.size + 1)) s') E ⟨h', g, d, t, os⟩) (hrest : rest.length ≤ sizeLine) :
    wpAny (model prog w) A (call (.ref C) rest) Q E ⟨h, g, d, t, os⟩ := by
  obtain ⟨nm, q, N, bs, sn, sub, ab, col, dd, k0, k1, k2, k3, k5, hC⟩ := e.ex
  have hC := X _ _ hC
  have f1 := tc_lookup
  have f2 := tc_bind (.ref C)
  have hT : (⟨h, g, d, t, os⟩ : Shared).TypeIs (.ref C) "type" := ⟨_, hC, rfl⟩
  refine wpAny_call (codeAny_of_tree ?_)
  show wpAny _ _ (callAny (.ref C) _) _ _ _
  repeat (any_goals (first | assumption | with_reducible refine wpAny_loadPart_at hC ?_ | wp_step))
  refine ⟨rfl, codeAny_call_builtin_at (Code.quiet_builtin _ (by decide +kernel)) entry_typeCall (wpAny_check_type_call_sub hC (type_call X e hi hfI hfc (fun h' hm => hq h' hm) hrest))⟩
end
section
variable {M : Model} {A : Around} {E : Value → Shared → Prop} {env : Env}
variable {nm q : Str} {C N : Addr} {bs bm : List Value} {hdct : Bool} {sn : List Str} {sub : List Value} {ab : Bool} {col : Option Bool} {dd : Option Addr} {k0 k1 k2 k3 k5 : Option Value} {newId : String}
theorem raise_made {s : Shared} {x : Sem Value} {Q : Flow → Shared → Prop} (hbase : bm.contains (.type "BaseException") = true) (hh : A.handled = none)
    (h : wpAny M A x (fun v s₁ => ∃ e t de, v = .ref e ∧ s₁.heap.get? C = some (excClassObj nm q C N bs bm hdct sn sub ab col dd k0 k1 k2 k3 k5 newId) ∧
      s₁.heap.get? e = some { cls := .ref C, dict := de, data := .fields #[.ref t, .none, .none, .none, .bool false, .none] } ∧ E (.ref e) s₁) E s) :
    wpAny M A (raiseStmt env (some x) none) Q E s := by
  have hcB : (Value.ref C :: bm).contains (.type "BaseException") = true := by rw [List.contains_cons, hbase, Bool.or_true]
  unfold raiseStmt
  refine wpAny_bind (wpAny_mono h (fun v s₁ h₁ => ?_) fun _ _ x => x)
  obtain ⟨e, t, de, rfl, hC, he, hE⟩ := h₁
  obtain ⟨hp, g, d, tk, os⟩ := s₁
  repeat (first | with_reducible refine wpAny_loadPart_at he ?_ | with_reducible refine wpAny_loadPart_at hC ?_ | (with_reducible refine wpAny_isSubtype_exc hC ?_; rw [hcB]) | wp_step)
  exact wpAny_raiseNew_none hh hE
end
section
variable {K : Frag} {prog : Program} {w : World} {A : Around} {E : Value → Shared → Prop} {h : Heap} {g : Array GenState} {d : Drawn} {t : Nat} {os : OsState} {C P x : Addr} {mA : Str → Option Value} {name : Str} {v : Value}
theorem passes_own (self : Value) : refuseLoop self "__setattr__" (.ref C :: .ref P :: VE) = pure () := by
  rw [refuseLoop_ref, refuseLoop_ref]
  exact F.store_ValueError.passes self
/-- the call's own check -/
theorem sa_check {M : Model} {o : Obj} {nameV : Value} {Q : Unit → Shared → Prop} (X : K.In h) (e : Err K C P) (hx : h.get? x = some o) (hc : o.cls = .ref C) (hq : Q () ⟨h, g, d, t, os⟩) :
    wpAny M A (checkBuiltinCall "object.__setattr__" ⟨[.ref x, nameV, v], []⟩) Q E ⟨h, g, d, t, os⟩ := by
  obtain ⟨nm, q, N, bs, sn, sub, ab, col, dd, k0, k1, k2, k3, k5, hC⟩ := e.ex
  have hC := X _ _ hC
  have SF := F.store_ValueError
  have hcB : (Value.ref C :: .ref P :: VE).contains (.type "object") = true := by simp [VE]
  have ha := SF.args (.ref x) nameV v
  simp only [checkBuiltinCall, SF.kind, SF.split]
  refine wpAny_bind ?_
  unfold isInstance
  repeat (first | (with_reducible refine wpAny_loadPart_at hx ?_; rw [hc]) | (with_reducible refine wpAny_isSubtype_exc hC ?_; rw [hcB]) | wp_step)
  exact hq
theorem sa_entry {tk : Tok} {Q : Fin → Shared → Prop} {ns : List Str} (X : K.In h) (e : Err K C P) (hna : findIn K (.ref C) name = some none) (I : h.Inst x C mA)
    (hq : ∀ h' tk', h'.Inst x C (fun y => if y = name then some v else mA y) →
      (∀ b o, b ≠ x → (∀ o₀ dx, h.get? x = some o₀ → o₀.dict = some dx → b ≠ dx) → h.get? b = some o → h'.get? b = some o) →
      (∀ o₀, h.get? x = some o₀ → ∃ o₁, h'.get? x = some o₁ ∧ o₁.cls = o₀.cls ∧ o₁.data = o₀.data ∧ o₁.slots = o₀.slots ∧ (∀ dx, o₀.dict = some dx → o₁.dict = some dx) ∧ (o₀.dict = none → o₁.dict = some h.objs.size)) → Q (.done (.ret .none)) ⟨h', g, d, tk', os⟩) (hw : Within mA ns) (hsz : ns.length ≤ sizeLine) :
    wpAny (model prog w) A (Builtin.«object.__setattr__» ⟨[.ref x, .str name tk, v], []⟩) Q E ⟨h, g, d, t, os⟩ := by
  obtain ⟨nm, q, N, bs, sn, sub, ab, col, dd, k0, k1, k2, k3, k5, hC⟩ := e.ex
  have hC := X _ _ hC
  obtain ⟨o, hx, hc, hnc, hd⟩ := I
  have hpass := passes_own (C := C) (P := P) (.ref x)
  unfold Builtin.«object.__setattr__»
  repeat (first | rw [refuse_eq] | rw [hpass] | (with_reducible refine wpAny_loadPart_at hx ?_; rw [hc]) | with_reducible refine wpAny_mroOf_exc hC ?_ | with_reducible refine look X hna ?_ | wp_step)
  rcases hd with ⟨hdn, hmA⟩ | ⟨dx, hdx, hne, hns⟩
  · rw [hdn, if_neg (by simp [typeHasDict])]
    split
    · rename_i hcd
      cases hcd
    split
    · rename_i c hcd
      exact absurd hcd (hnc c)
    · generalize hob : ({ cls := .type "dict", data := .dict #[] } : Obj) = ob
      have hx₁ : (h.push ob).get? x = some o := Heap.get?_push_of_some _ hx
      have hxs : x ≠ h.objs.size := Nat.ne_of_lt (Heap.lt_size hx)
      refine wpAny_bind (wpAny_alloc' (wpAny_bind (wpAny_update' hx₁ (wpAny_pure ?_))))
      have hgd : ((h.push ob).update x fun o => { cls := o.cls, dict := some h.objs.size, data := o.data, slots := o.slots }).get? h.objs.size = some ob :=
        (Heap.get?_update_ne _ _ _ _ hxs.symm).trans (Heap.get?_push_at rfl (by rw [← hob]; rfl))
      have hnd : ((h.push ob).update x fun o => { cls := o.cls, dict := some h.objs.size, data := o.data, slots := o.slots }).Ns h.objs.size (fun _ => none) :=
        ⟨_, #[], _, hgd, by rw [← hob], fun e he => absurd he (by simp), fun _ => rfl⟩
      show wpAny _ _ (storeInDict h.objs.size (.str name tk) name v) _ _ _
      unfold storeInDict newKeyGuard
      refine wpAny_bind (wpAny_pure (wpAny_bind (wpAny_nsSet1 (Heap.Ns1.of_empty hnd) fun h' hn' hs => ?_)))
      obtain ⟨oD, esD, epD, hoD, hdD, hcD⟩ := hn'.count (Within.cons name v Within.nil)
      refine wpAny_bind (wpAny_lookBehind hoD (by rw [hdD]; exact pastItsLine_dict (Nat.le_trans hcD (by rw [List.length_cons, List.length_nil, sizeLine_eq]; omega))) ?_)
      wp_walk
      have hx' : h'.get? x = some { cls := o.cls, dict := some h.objs.size, data := o.data, slots := o.slots } := by
        refine (hs.2 x hxs).trans (Heap.get?_update_self _ hx₁ ?_)
        have hfr := (Heap.get?_some_iff.mp hx).2
        obtain ⟨oc, od, odt, osl⟩ := o
        cases odt <;> first | rfl | exact hfr
      refine hq h' _ ⟨_, hx', hc, hnc, .inr ⟨h.objs.size, rfl, hxs.symm, ?_⟩⟩ (fun b ob hbx _ hb => ?_) (fun o₀ h₀ => ?_)
      · obtain ⟨o', es, ep, e1, e2, e3, eu, e4⟩ := hn'
        exact ⟨o', es, ep, e1, e2, e3, eu, fun y => by rw [e4 y]; by_cases hy : y = name <;> simp [hy, hmA]⟩
      · exact (hs.2 b (Nat.ne_of_lt (Heap.lt_size hb))).trans ((Heap.get?_update_ne _ _ _ _ hbx).trans (Heap.get?_push_of_some _ hb))
      · obtain rfl : o = o₀ := Option.some.inj (hx.symm.trans h₀)
        exact ⟨_, hx', rfl, rfl, rfl, fun dx e => (by rw [hdn] at e; cases e), fun _ => rfl⟩
  · rw [hdx]
    refine wpAny_pure ?_
    show wpAny _ _ (storeInDict dx (.str name tk) name v) _ _ _
    unfold storeInDict newKeyGuard
    refine wpAny_bind (wpAny_pure (wpAny_bind (wpAny_nsSet1 hns fun h' hn' hs => ?_)))
    obtain ⟨oD, esD, epD, hoD, hdD, hcD⟩ := hn'.count (Within.cons name v hw)
    refine wpAny_bind (wpAny_lookBehind hoD (by rw [hdD]; exact pastItsLine_dict (Nat.le_trans hcD (by rw [List.length_cons]; omega))) ?_)
    wp_walk
    refine hq h' _ ⟨o, (hs.2 x hne.symm).trans hx, hc, hnc, .inr ⟨dx, hdx, hne, hn'⟩⟩ (fun b ob _ hbd hb => ?_) (fun o₀ h₀ => ?_)
    · exact (hs.2 b (hbd o dx hx hdx)).trans hb
    · obtain rfl : o = o₀ := Option.some.inj (hx.symm.trans h₀)
      exact ⟨o, (hs.2 x hne.symm).trans h₀, rfl, rfl, rfl, fun _ e => e, fun e => (by rw [hdx] at e; cases e)⟩
/-- o.f = v at an error's object -/
theorem store_x {Q : Unit → Shared → Prop} {ns : List Str} (X : K.In h) (e : Err K C P) (hns : findIn K (.ref C) "__setattr__" = some (some (.builtin "object.__setattr__"))) (hna : findIn K (.ref C) name = some none) (I : h.Inst x C mA)
    (hq : ∀ h' tk', h'.Inst x C (fun y => if y = name then some v else mA y) →
      (∀ b o, b ≠ x → (∀ o₀ dx, h.get? x = some o₀ → o₀.dict = some dx → b ≠ dx) → h.get? b = some o → h'.get? b = some o) →
      (∀ o₀, h.get? x = some o₀ → ∃ o₁, h'.get? x = some o₁ ∧ o₁.cls = o₀.cls ∧ o₁.data = o₀.data ∧ o₁.slots = o₀.slots ∧ (∀ dx, o₀.dict = some dx → o₁.dict = some dx) ∧ (o₀.dict = none → o₁.dict = some h.objs.size)) → Q () ⟨h', g, d, tk', os⟩) (hw : Within mA ns) (hsz : ns.length ≤ sizeLine) :
    wpAny (model prog w) A (setAttr (.ref x) name v) Q E ⟨h, g, d, t, os⟩ := by
  obtain ⟨o, hx, hc, _⟩ := id I
  have SF := F.store_ValueError
  have f3 := SF.slot.bind (.ref x)
  unfold setAttr callSpecial? specialOf
  repeat (any_goals (first | assumption | (with_reducible refine wpAny_loadPart_at hx ?_; rw [hc]) | with_reducible refine look X hns ?_ | wp_step))
  refine codeAny_call_builtin SF.slot.plain SF.entry (sa_check X e hx hc (sa_entry X e hna I (fun h' tk' I' hk hsame => ?_) hw hsz))
  repeat (any_goals (first | assumption | wp_step))
  exact hq h' tk' I' hk hsame
end
section
variable {K : Frag} {prog : Program} {w : World} {A : Around} {E : Value → Shared → Prop} {h : Heap} {g : Array GenState} {d : Drawn} {t : Nat} {os : OsState} {C P x : Addr} {mA : Str → Option Value} {name : Str} {v : Value}
theorem ga_check {M : Model} {o : Obj} {nameV : Value} {Q : Unit → Shared → Prop} (X : K.In h) (e : Err K C P) (hx : h.get? x = some o) (hc : o.cls = .ref C) (hq : Q () ⟨h, g, d, t, os⟩) :
    wpAny M A (checkBuiltinCall "BaseException.__getattribute__" ⟨[.ref x, nameV], []⟩) Q E ⟨h, g, d, t, os⟩ := by
  obtain ⟨nm, q, N, bs, sn, sub, ab, col, dd, k0, k1, k2, k3, k5, hC⟩ := e.ex
  have hC := X _ _ hC
  have hk : builtinKind "BaseException.__getattribute__" = some .slot := by decide +kernel
  have hsp : splitId "BaseException.__getattribute__" = some ("BaseException", "__getattribute__") := by decide +kernel
  have hcB : (Value.ref C :: .ref P :: VE).contains (.type "BaseException") = true := by simp [VE]
  have ha := F.args_bexc_ga (.ref x) nameV
  simp only [checkBuiltinCall, hk, hsp]
  refine wpAny_bind ?_
  unfold isInstance
  repeat (first | (with_reducible refine wpAny_isSubtype_exc hC ?_; rw [hcB]) | (with_reducible refine wpAny_loadPart_at hx ?_; rw [hc]) | wp_step)
  exact hq
theorem ga_entry {tk : Tok} {Q : Fin → Shared → Prop} (X : K.In h) (e : Err K C P) (hna : findIn K (.ref C) name = some none) (I : h.Inst x C mA) (hv : mA name = some v) (hq : Q (.done (.ret v)) ⟨h, g, d, t, os⟩) :
    wpAny (model prog w) A (Builtin.«object.__getattribute__» ⟨[.ref x, .str name tk], []⟩) Q E ⟨h, g, d, t, os⟩ := by
  obtain ⟨nm, q, N, bs, sn, sub, ab, col, dd, k0, k1, k2, k3, k5, hC⟩ := e.ex
  have hC := X _ _ hC
  obtain ⟨o, hx, hc, hnc, hd⟩ := I
  rcases hd with ⟨_, hmA⟩ | ⟨dx, hdx, hne, hns⟩
  · rw [hmA name] at hv; cases hv
  unfold Builtin.«object.__getattribute__»
  repeat (first | with_reducible refine look X hna ?_ | (with_reducible refine wpAny_loadPart_at hx ?_; rw [hc]) | wp_step)
  split
  · rename_i c hcd
    exact absurd hcd (hnc c)
  unfold instanceDict
  repeat (first | with_reducible refine wpAny_loadPart_at hC ?_ | (with_reducible refine wpAny_loadPart_at hx ?_; rw [hc]) | wp_step)
  rw [hdx]
  repeat (first | (with_reducible refine wpAny_nsGet hns.ns ?_; rw [hv]) | wp_step)
  exact hq
theorem load_x {expr : Bool} {Q : Value → Shared → Prop} (X : K.In h) (e : Err K C P) (hng : findIn K (.ref C) "__getattribute__" = some (some (.builtin "BaseException.__getattribute__"))) (hgh : findIn K (.ref C) "__getattr__" = some none) (hna : findIn K (.ref C) name = some none) (I : h.Inst x C mA) (hv : mA name = some v) (hh : handedOut v = pure v) (hq : Q v ⟨h, g, d, t + 1, os⟩) :
    wpAny (model prog w) A (getAttr (.ref x) name expr) Q E ⟨h, g, d, t, os⟩ := by
  obtain ⟨o, hx, hc, _⟩ := id I
  have FB := F.attrBase_ValueError
  have f3 := FB.ga.bind (.ref x)
  have hx0 : (expr && onTheHeap (Value.builtin "BaseException.__getattribute__")) = false := by cases expr <;> rfl
  have hx2 : (Value.builtin "BaseException.__getattribute__" == Value.builtin "object.__getattribute__") = false := by decide +kernel
  have hx1 : (onTheHeap (Value.ref C) && Value.builtin "BaseException.__getattribute__" == Value.builtin "object.__getattribute__") = false := by rw [hx2]; rfl
  unfold getAttr
  repeat (any_goals (first | assumption | with_reducible refine look X hng ?_ | with_reducible refine look X hgh ?_ | (with_reducible refine wpAny_loadPart_at hx ?_; rw [hc]) | wp_step))
  refine codeAny_call_builtin FB.ga.plain F.entry_bexc_ga (ga_check X e hx hc (ga_entry X e hna I hv ?_))
  repeat (any_goals (first | assumption | wp_step))
end
/-- the class above: its object -/
structure Err0 (K : Frag) (P : Addr) : Prop where
  ex : ∃ nm q N bs sn sub ab col dd k0 k1 k2 k3 k5 newId, K.lookup P = some (excClassObj nm q P N bs VE true sn sub ab col dd k0 k1 k2 k3 k5 newId)
section
variable {K : Frag} {M : Model} {A : Around} {E : Value → Shared → Prop} {h : Heap} {g : Array GenState} {d : Drawn} {t : Nat} {os : OsState} {C P e : Addr} {oe : Obj} {Q : Bool → Shared → Prop}
theorem caught (X : K.In h) (c : Err K C P) (b : Err0 K P) (he : h.get? e = some oe) (hcls : oe.cls = .ref C) (hq : Q true ⟨h, g, d, t, os⟩) : wpAny M A (excMatches (.ref e) (.ref P)) Q E ⟨h, g, d, t, os⟩ := by
  obtain ⟨nm, q, N, bs, sn, sub, ab, col, dd, k0, k1, k2, k3, k5, hC⟩ := c.ex
  obtain ⟨nm', q', N', bs', sn', sub', ab', col', dd', k0', k1', k2', k3', k5', newId', hP⟩ := b.ex
  have hC := X _ _ hC
  have hP := X _ _ hP
  have h1 : (Value.ref P :: VE).contains (.type "BaseException") = true := by simp [VE]
  have h2 : (Value.ref C :: .ref P :: VE).contains (.ref P) = true := by simp [VE]
  have f := tc_notTuple
  unfold excMatches
  repeat (first | (with_reducible refine wpAny_loadPart_at he ?_; rw [hcls]) | with_reducible refine wpAny_loadPart_at hP ?_ | (with_reducible refine wpAny_isSubtype_exc hP ?_; rw [h1]) | (with_reducible refine wpAny_isSubtype_exc hC ?_; rw [h2]) | wp_step)
  exact hq
end
end X1

set_option Elab.async false
set_option linter.all false
set_option maxRecDepth 100000
set_option maxHeartbeats 4000000
/-! defs that may raise an own error -/
namespace D3
open PySem PySem.Spec PyProof.Rows L2 X1
/-- of an error: its class, its fields, the memory -/
abbrev XQ := Addr → List (Str × D) → MH → Prop
/-- an error on its way -/
structure Flies (H : Hp) (h : Heap) (a C dx : Addr) (fs : List (Str × V)) : Prop where
  at_ : ExcAt h a (.ref C) (some dx)
  ne : dx ≠ a
  own : H dx = some (.xd fs)
  free : H a = none
def XCX (P : Program) (w : World) : CXT := fun outer H s E e s' => ∃ a C dx fs H', e = .ref a ∧ s'.os = s.os ∧ AllBare s'.gens ∧ Un (frs outer) [] H H' s.heap s'.heap ∧ HOk P w H' s'.heap ∧ Flies H' s'.heap a C dx fs ∧ s.heap.objs.size ≤ a ∧ E (.ref C) (some dx) H'
/-- an error of such a kind is what this body wants of errors -/
def Thr (X : Cx) (R : Ga → XQ) : Prop := ∀ (pins : List (Addr × Obj)) (σ : St) (H : Hp) (s : Shared) (a C dx : Addr) (fs : List (Str × V)) (ds : List (Str × D)) (G : Ga) (M : MH),
  L2.Inv X pins σ H s → Flies H s.heap a C dx fs → X.s₀.heap.objs.size ≤ a → (∀ p ∈ X.pn ++ pins, p.1 ≠ a) → Rel X G M σ H → FsIs H ds fs → R G C ds M → X.xe (.ref a) s
theorem un_grow {fs ex : List Addr} {H H' : Hp} {h h' : Heap} (u : Un fs ex H H' h h') : Grow H H' := fun b xs e => u.tups b xs e
theorem thr_fn {P : Program} {w : World} {K : PySem.W.Frag} {mg : Str → Option Value} {base : Heap} {N : List Str} {qual : Str} {scope : Scope} {f : Addr} {cdv : Value} {A : Around} {outer : List Env} {s₀ : Shared} {H₀ : Hp} {E : XK} {R : XQ}
    (hE : ∀ C dx fs ds M H', Grow H₀ H' → H' dx = some (.xd fs) → MemOk K M H' → FsIs H' ds fs → R C ds M → E (.ref C) (some dx) H') : Thr (cxOf (XCX P w) P w K mg base N qual scope f cdv A outer s₀ H₀ E) (fun _ => R) := by
  intro pins σ H s a C dx fs ds G M I fl hsz _ Rl hf hr
  have g : Grow H₀ H := un_grow I.base
  have m : MemOk K M H := Rl.mem
  have hst : frs (cxOf (XCX P w) P w K mg base N qual scope f cdv A outer s₀ H₀ E).stack = (cxOf (XCX P w) P w K mg base N qual scope f cdv A outer s₀ H₀ E).env.locals :: frs outer := rfl
  refine leave (base := base) I.ok.frames I.stack rfl fl.at_ fun h' hp hx => ?_
  have hsf : (List.filterMap (fun x : Env => x.frame) (cxOf (XCX P w) P w K mg base N qual scope f cdv A outer s₀ H₀ E).stack) = (cxOf (XCX P w) P w K mg base N qual scope f cdv A outer s₀ H₀ E).env.locals :: frs outer := rfl
  have old : ∀ b o, s₀.heap.get? b = some o → b ≠ a ∧ b ≠ (cxOf (XCX P w) P w K mg base N qual scope f cdv A outer s₀ H₀ E).env.locals := fun b o hb => by
    have h1 : b < s₀.heap.objs.size := Heap.lt_size hb
    have h2 : s₀.heap.objs.size ≤ (cxOf (XCX P w) P w K mg base N qual scope f cdv A outer s₀ H₀ E).env.locals := I.ok.above
    have h3 : s₀.heap.objs.size ≤ a := hsz
    exact ⟨Nat.ne_of_lt (Nat.lt_of_lt_of_le h1 h3), Nat.ne_of_lt (Nat.lt_of_lt_of_le h1 h2)⟩
  refine ⟨a, C, dx, fs, H, rfl, I.os, I.bare, ⟨?_, ?_, ?_, ?_, I.base.tups, I.base.frzs, I.base.tbls⟩, fun b o e => ?_, ⟨hx, fl.ne, fl.own, fl.free⟩, hsz, hE C dx fs ds M H g fl.own m hf hr⟩
  · intro b o hb n hbf hbx
    obtain ⟨q1, q2⟩ := old b o hb
    refine hp.1 b o (I.base.keep b o hb n hbf hbx) q1 fun z => ?_
    rcases List.mem_cons.mp (show b ∈ (cxOf (XCX P w) P w K mg base N qual scope f cdv A outer s₀ H₀ E).env.locals :: frs outer from z) with z | z
    · exact q2 z
    · exact hbf z
  · intro b o hb n hbf hbx
    obtain ⟨sl, e⟩ := I.base.slot b o hb n hbf hbx
    obtain ⟨sl', e'⟩ := hp.2 b _ e (old b o hb).1
    exact ⟨sl', e'⟩
  · exact fun b o hb n hbx => I.base.free b o hb n hbx
  · intro b o hb hbx
    obtain ⟨o', e⟩ := I.base.there b o hb hbx
    obtain ⟨sl', e'⟩ := hp.2 b _ e (old b o hb).1
    exact ⟨_, e'⟩
  · refine (I.hok b o e).stay (fun c u hc hu => ?_) (fun _ z => z) (fun _ _ z => z)
    have htr : H c ≠ none := by
      rcases hc with rfl | hc
      · rw [e]; simp
      · rw [hc]; simp
    refine hp.1 c u hu (fun z => htr (by rw [z]; exact fl.free)) fun z => htr (I.stkFree c z)
/-! ### promises -/
abbrev SpX := List D → MH → DK → XQ → Prop
def liftX (K : PySem.W.Frag) (sp : SpX) : Sp := fun vs H Q E => ∃ ds M Qd R, IsL H ds vs ∧ MemOk K M H ∧ sp ds M Qd R ∧ (∀ v H' d M', Grow H H' → Is H' d v → MemOk K M' H' → Qd d M' → Q v H') ∧
  ∀ C dx fs es M' H', Grow H H' → H' dx = some (.xd fs) → MemOk K M' H' → FsIs H' es fs → R C es M' → E (.ref C) (some dx) H'
structure CalX (P : Program) (w : World) (K : PySem.W.Frag) (mg : Str → Option Value) (base : Heap) (k : Nat) (x : Str) (sp : SpX) : Prop where
  ex : ∃ (f : Addr) (fd : FuncData) (ps : List Str), FnOk P w K mg base (XCX P w) k f fd ps (liftX K sp) ∧ mg x = some (.ref f) ∧ PySem.W.keepIn K (.ref f) = true ∧ Binds K fd ps []
section
variable {X : Cx} {G : Ga} {M : MH} {e : Expr} {es : List Expr} {pos : Pos} {Q : DK} {R : Ga → XQ}
theorem run_fnX {k : Nat} {f : Addr} {fd : FuncData} {ps : List Str} {sp : SpX} {pins : List (Addr × Obj)} {σ : St} {H0 H : Hp} {s : Shared} {us : List Value} {vs : List V} {ds : List D} (F : FnOk X.prog X.w X.K X.mg X.base (XCX X.prog X.w) k f fd ps (liftX X.K sp)) (hr : Room k X.A) (hb : Binds X.K fd ps [])
    (T : Thr X R) (I : L2.Inv X pins σ H s) (Rl : Rel X G M σ H) (g0 : Grow H0 H) (r : Vals vs us) (i : IsL H ds vs) (h : sp ds M Q (R G)) : wpAny (model X.prog X.w) X.A (call (.ref f) us) (EPD X pins σ G H0 Q) X.xe s := by
  have h' : liftX X.K sp vs H (fun v H' => ∃ d M', Grow H H' ∧ Is H' d v ∧ MemOk X.K M' H' ∧ Q d M') (fun cv dd H' => ∃ C dx fs es M', cv = .ref C ∧ dd = some dx ∧ Grow H H' ∧ H' dx = some (.xd fs) ∧ MemOk X.K M' H' ∧ FsIs H' es fs ∧ R G C es M') :=
    ⟨ds, M, Q, R G, i, Rl.mem, h, fun v H' d M' g i m q => ⟨d, M', g, i, m, q⟩, fun C dx fs es M' H' g h1 m h2 q => ⟨C, dx, fs, es, M', rfl, rfl, g, h1, m, h2, q⟩⟩
  have hl : (us ++ []).length = ps.length := by rw [List.append_nil, ← r.length]; exact F.len _ _ _ _ h'
  have hbb := hb s us I.kIn hl
  rw [List.append_nil] at hbb
  refine wpAny_call (codeAny_mono (F.run X.A X.stack s H ⟨us, []⟩ us vs _ _ hr I.env0 hbb r h') fun r s' hq => ?_)
  cases r with
  | error e =>
    obtain ⟨a, C, dx, fs, H', rfl, hos, hb', un, hok, fl, hsz, C', dx', fs', es, M', e1, e3, g, h1, m, h2, q⟩ := hq
    cases e1; cases e3
    have I3 := I.call' hos un hok hb' (fun b z => absurd z (by simp))
    have hfe : fs = fs' := by
      have := fl.own.symm.trans h1
      simpa using this
    subst hfe
    exact T pins σ H' s' a C dx fs es G M' I3 fl (Nat.le_trans I.sz hsz) (fun p hp => Nat.ne_of_lt (Nat.lt_of_lt_of_le (Heap.lt_size (I.pin p hp).1) hsz)) (Rl.to g m) h2 q
  | ok fl =>
    cases fl with
    | ret u =>
      obtain ⟨v, H', I', r', d, M', g, i', m, q⟩ := I.after hq
      exact ⟨v, H', d, M', I', r', g0.trans g, i', Rl.to g m, q⟩
    | next => exact False.elim hq
    | brk => exact False.elim hq
    | cont => exact False.elim hq
theorem ev_callX {j k : Nat} {x : Str} {p : Pos} {sp : SpX} (C : CalX X.prog X.w X.K X.mg X.base j x sp) (hr : Room k X.A) (hk : j ≤ k) (T : Thr X R) (h : AV X G M (e :: es) fun ds M1 => sp ds M1 Q (R G)) (hg : Gl X x := by rfl) (hdb : (x == ("__debug__" : Str)) = false := by decide)
    (he : starEach (e :: es) X.env = (false, eval e X.env) :: starEach es X.env := by rfl) (hpl : (backTo pos (starEach es X.env)).any (·.1) = false := by rfl) : EV X G M (.Call (.Name x p) (e :: es) [] pos) Q := by
  intro pins s σ H I Rl
  obtain ⟨f, fd, ps, F, hm, hkp, hb⟩ := C.ex
  refine wpAny_Call_Name_kw (ld_glob I hg hm ?_ hdb)
  refine PySem.W.callWith_K (h₀ := X.base) I.ok.mod.kin hkp (thn (h pos pins s σ H I Rl) fun us s1 ⟨vs, H1, ds, M1, I1, r1, g1, i1, R1, q1⟩ => ⟨I1.kIn, ?_⟩) he hpl
  exact run_fnX (F.mono hk) hr hb T I1 R1 g1 r1 i1 q1
end
section
variable {P : Program} {w : World} {K : PySem.W.Frag} {mg : Str → Option Value} {base : Heap}
/-- a def that may raise, by its body -/
theorem fn_X {x qual : Str} {st : Stmt} {f : Addr} {fd : FuncData} {N ps : List Str} {k : Nat} {sp : SpX} (F : Fun K x qual st f fd) (S : FnScope N ps (defScope st)) (len : ∀ ds M Q R, sp ds M Q R → ds.length = ps.length)
    (hbody : ∀ (cdv : Value) (A : Around) (outer : List Env) (s : Shared) (H : Hp) (EE : XK) (ds : List D) (M : MH) (Q : DK) (R : XQ), Room k (A.deeper (envOfC qual (defScope st) s.heap.objs.size f cdv)) → sp ds M Q R → Thr (cxOf (XCX P w) P w K mg base N qual (defScope st) f cdv A outer s H EE) (fun _ => R) →
      EXs (cxOf (XCX P w) P w K mg base N qual (defScope st) f cdv A outer s H EE) (startG N ds) M (defBody st) { nx := fun _ M' => Q .non M', rt := Q }) : FnOk P w K mg base (XCX P w) (k + 1) f fd ps (liftX K sp) := by
  obtain ⟨oc, od, kV, doc, pm, an, cdv, ct, osl, rfl, lk, hcd⟩ := F.ex
  refine fn_of lk hcd S (fun vs H Q E h => ?_) (fun A outer s H vs Q E hr h => ?_)
  · obtain ⟨ds, M, Qd, R, i, _, h, _⟩ := h
    rw [← i.len]; exact len _ _ _ _ h
  obtain ⟨ds, M, Qd, R, i, m, h, kq, kx⟩ := h
  have B := hbody cdv A outer s H E ds M Qd R hr h (thr_fn kx)
  refine ⟨fun D σ' H' => σ' = L2.start N vs ∧ H' = H ∧ D.nx = (fun _ H' => Q .non H') ∧ D.rt = Q, ?_, rfl, rfl, rfl, rfl⟩
  intro pins s' σ' H' D I ⟨e1, e2, e3, e4⟩
  subst e1; subst e2
  refine thn (B pins s' _ _ I (rel_start i m)) fun fl s'' q => ?_
  cases fl with
  | next =>
    obtain ⟨σ2, H2, G2, M2, I2, g2, R2, q2⟩ := q
    refine ⟨σ2, H2, I2, ?_⟩
    rw [e3]
    exact kq .non H2 .non M2 g2 (is_non.mpr rfl) R2.mem q2
  | brk => obtain ⟨_, _, _, _, _, _, _, z⟩ := q; exact z.elim
  | cont => obtain ⟨_, _, _, _, _, _, _, z⟩ := q; exact z.elim
  | ret u =>
    obtain ⟨v, σ2, H2, d, M2, I2, r2, g2, i2, m2, q2⟩ := q
    refine ⟨v, σ2, H2, I2, r2, ?_⟩
    rw [e4]
    exact kq v H2 d M2 g2 i2 m2 q2
theorem cal_X {x : Str} {st : Stmt} {f : Addr} {fd : FuncData} {ps : List Str} {k : Nat} {sp : SpX} (F : Fun K x x st f fd) (G : FnOk P w K mg base (XCX P w) k f fd ps (liftX K sp)) (b : Binds K fd ps []) (m : mg x = some (.ref f)) : CalX P w K mg base k x sp :=
  ⟨f, fd, ps, G, m, F.kp, b⟩
/-- loops let an error pass -/
theorem pass_fn {N : List Str} {qual : Str} {scope : Scope} {f : Addr} {cdv : Value} {A : Around} {outer : List Env} {s₀ : Shared} {H₀ : Hp} {E : XK} :
    PassesOwn (model P w) (cxOf (XCX P w) P w K mg base N qual scope f cdv A outer s₀ H₀ E).A (cxOf (XCX P w) P w K mg base N qual scope f cdv A outer s₀ H₀ E).env (cxOf (XCX P w) P w K mg base N qual scope f cdv A outer s₀ H₀ E).xe := PassesOwn.leaving
end
end D3

set_option Elab.async false
set_option linter.all false
set_option maxRecDepth 100000
set_option maxHeartbeats 4000000
/-! errors made and raised, by data -/
namespace D3
open PySem PySem.Spec PyProof.Rows L2 X1
def putA (f : Str) (d : D) : List (Str × D) → List (Str × D)
  | [] => [(f, d)]
  | (g, x) :: r => if g = f then (g, d) :: r else (g, x) :: putA f d r
theorem FsIs.put {H : Hp} {f : Str} {d : D} {y : V} (i : Is H d y) : ∀ {fs : List (Str × D)} {ys : List (Str × V)}, FsIs H fs ys → FsIs H (putA f d fs) (putF f y ys)
  | [], ys, h => by
    have h : ys = [] := h
    subst h
    exact ⟨y, [], rfl, i, rfl⟩
  | (g, x) :: r, ys, h => by
    obtain ⟨v, ys', rfl, h1, h2⟩ := h
    unfold putA putF
    by_cases c : g = f
    · rw [if_pos c, if_pos c]; exact ⟨y, ys', rfl, i, h2⟩
    · rw [if_neg c, if_neg c]; exact ⟨v, _, rfl, h1, FsIs.put i h2⟩
theorem FsIs.get {H : Hp} {f : Str} {d : D} : ∀ {fs : List (Str × D)} {ys : List (Str × V)}, FsIs H fs ys → fs.lookup f = some d → ∃ y, ys.lookup f = some y ∧ Is H d y
  | [], _, _, e => by cases e
  | (g, x) :: r, ys, h, e => by
    obtain ⟨v, ys', rfl, h1, h2⟩ := h
    unfold List.lookup at e ⊢
    by_cases c : f = g
    · have hb : (f == g) = true := beq_iff_eq.mpr c
      rw [hb] at e ⊢
      cases e
      exact ⟨v, rfl, h1⟩
    · have hb : (f == g) = false := by simpa using c
      rw [hb] at e ⊢
      exact FsIs.get h2 e
section
variable {X : Cx} {pins : List (Addr × Obj)} {σ : St} {H : Hp} {s : Shared} {h' : Heap}
theorem obj_ext {P : Program} {w : World} {H : Hp} {h : Heap} {a C : Addr} {dd : Option Addr} {fr : Bool} (x : ExcO a C dd fr h) : ObjOk P w H h a (.ext (ExcO a C dd fr)) := by
  obtain ⟨o, vs, e, h1, h2, h3, h4⟩ := id x
  exact ⟨x, ⟨o, e⟩, fun h1 h2 ⟨o, vs, e, q⟩ k => ⟨o, vs, k o e, q⟩⟩
/-- an error's object and its dict change -/
theorem inv_x {a dx : Addr} {o1 o2 : HO} {t' : Nat} (I : L2.Inv X pins σ H s) (hA : ∃ φ, H a = some (.ext φ)) (hD : (H dx = none ∧ s.heap.objs.size ≤ dx) ∨ ∃ fs, H dx = some (.xd fs)) (hne : dx ≠ a)
    (k : ∀ b u, b ≠ a → b ≠ dx → s.heap.get? b = some u → h'.get? b = some u) (ta : ∃ o, h'.get? a = some o) (td : ∃ o, h'.get? dx = some o) (oa : ObjOk X.prog X.w (upd (upd H dx o1) a o2) h' a o2) (od : ObjOk X.prog X.w (upd (upd H dx o1) a o2) h' dx o1) :
    L2.Inv X pins σ (upd (upd H dx o1) a o2) { s with heap := h', toks := t' } := by
  obtain ⟨φ, hA⟩ := hA
  have ne1 : ∀ b o, s.heap.get? b = some o → H b = none → b ≠ a ∧ b ≠ dx := fun b o hb n => by
    refine ⟨fun z => (by rw [z, hA] at n; cases n), fun z => ?_⟩
    rcases hD with ⟨_, h2⟩ | ⟨fs, h2⟩
    · rw [z] at hb; exact absurd (Heap.lt_size hb) (Nat.not_lt.mpr h2)
    · rw [z, h2] at n; cases n
  have ne2 : ∀ b u, H b = some u → (∀ φ, u ≠ .ext φ) → (∀ fs, u ≠ .xd fs) → upd (upd H dx o1) a o2 b = some u := fun b u hb n1 n2 => by
    have q1 : b ≠ a := fun z => by rw [z, hA] at hb; cases hb; exact n1 _ rfl
    have q2 : b ≠ dx := fun z => by
      rcases hD with ⟨h2, _⟩ | ⟨fs, h2⟩
      · rw [z, h2] at hb; cases hb
      · rw [z, h2] at hb; cases hb; exact n2 _ rfl
    rw [upd_ne q1, upd_ne q2]; exact hb
  refine I.un ⟨fun b o hb n _ _ => k b o (ne1 b o hb n).1 (ne1 b o hb n).2 hb, fun b o hb n _ _ => ⟨o.slots, k b o (ne1 b o hb n).1 (ne1 b o hb n).2 hb⟩, fun b o hb n _ => ?_, fun b o hb _ => ?_,
    fun b xs e => ne2 b _ e (fun _ z => by cases z) (fun _ z => by cases z), fun b o u e => ne2 b _ e (fun _ z => by cases z) (fun _ z => by cases z), fun b ps e => ⟨#[], by rw [ne2 b _ e (fun _ z => by cases z) (fun _ z => by cases z)]; simp⟩⟩ ?_
  · rw [upd_ne (ne1 b o hb n).1, upd_ne (ne1 b o hb n).2]; exact n
  · by_cases q1 : b = a
    · rw [q1]; exact ta
    · by_cases q2 : b = dx
      · rw [q2]; exact td
      · exact ⟨o, k b o q1 q2 hb⟩
  · intro b u e
    by_cases q1 : b = a
    · subst q1; rw [upd_same] at e; cases e; exact oa
    · rw [upd_ne q1] at e
      by_cases q2 : b = dx
      · subst q2; rw [upd_same] at e; cases e; exact od
      · rw [upd_ne q2] at e
        refine (I.hok b u e).stay (fun c v hc hv => ?_) (fun c hc => ne2 c _ hc (fun _ z => by cases z) (fun _ z => by cases z)) (fun c xs hc => ne2 c _ hc (fun _ z => by cases z) (fun _ z => by cases z))
        rcases hc with rfl | hc
        · exact k c v q1 q2 hv
        · refine k c v (fun z => ?_) (fun z => ?_) hv
          · rw [z, hA] at hc; cases hc
          · rcases hD with ⟨h2, _⟩ | ⟨fs, h2⟩
            · rw [z, h2] at hc; cases hc
            · rw [z, h2] at hc; cases hc
end
/-- a class's facts about one field -/
structure ErrF (K : PySem.W.Frag) (C P : Addr) (f : Str) : Prop where
  cls : Err K C P
  sa : PySem.W.findIn K (.ref C) "__setattr__" = some (some (.builtin "object.__setattr__"))
  ga : PySem.W.findIn K (.ref C) "__getattribute__" = some (some (.builtin "BaseException.__getattribute__"))
  gh : PySem.W.findIn K (.ref C) "__getattr__" = some none
  no : PySem.W.findIn K (.ref C) f = some none
section
variable {X : Cx} {G : Ga} {M : MH} {o value : Expr} {pos pos' : Pos} {E : EndsD} {Q : DK}
theorem mem_not {K : PySem.W.Frag} {H : Hp} {h : Heap} {dx : Addr} (m : MemOk K M H) (kin : K.In h) (h1 : H dx = none) (h2 : h.objs.size ≤ dx) : M dx = none := by
  cases e : M dx with
  | none => rfl
  | some u =>
    rcases (m dx u e).there with ⟨v, q⟩ | ⟨v, q⟩
    · rw [h1] at q; cases q
    · exact absurd (Heap.lt_size (kin dx v q)) (Nat.not_lt.mpr h2)
/-- self.f = v in an error's __init__ -/
theorem ex_fldX {C P : Addr} {f : Str} (F : ErrF X.K C P f) (h : EV X G M value fun dv M1 => EV X G M1 o fun dO M2 => ∃ a, dO = .ref a ∧
      ((M2 a = some (.exc C none true) ∧ ∀ dx, M2 dx = none → dx ≠ a → E.nx G (mset (mset M2 dx (.att [(f, dv)])) a (.exc C (some dx) true))) ∨
        ∃ dx fs, M2 a = some (.exc C (some dx) true) ∧ M2 dx = some (.att fs) ∧ dx ≠ a ∧ fs.length < 100 ∧ E.nx G (mset (mset M2 dx (.att (putA f dv fs))) a (.exc C (some dx) true))))
    (hs : swapsWith value (some (.Attribute o f pos')) pos.line X.env = pure false := by rfl) : EX X G M (.Assign [.Attribute o f pos'] value pos) E := by
  intro pins s σ H I R
  refine plainObj_wpAny_Assign_Attribute (thn (h pins s σ H I R) fun u s1 ⟨y, H1, dv, M1, I1, ry, g1, i1, R1, q1⟩ => thn (q1 pins s1 σ H1 I1 R1) fun ov s2 ⟨x, H2, dO, M2, I2, rx, g2, i2, R2, a, e, q⟩ => ?_) hs
  subst e
  rw [is_ref] at i2; subst i2
  obtain rfl : ov = Value.ref a := rx
  have iv := Is.grow g2 _ _ i1
  obtain ⟨h2, gg, dd, tt, oo⟩ := s2
  rcases q with ⟨ha, q⟩ | ⟨dx, fs, ha, hdx, hne, hfl, q⟩
  · have hA : H2 a = some (.ext (ExcO a C none true)) := R2.mem a _ ha
    obtain ⟨⟨ob, vs, ho, hc, hd, hdt, hfr⟩, _, _⟩ := I2.hok a _ hA
    have hlt : a < h2.objs.size := Heap.lt_size ho
    have Ix : h2.Inst a C (fun _ => none) := ⟨ob, ho, hc, fun c z => (by rw [hdt] at z; cases z), .inl ⟨hd, fun _ => rfl⟩⟩
    refine store_x (ns := []) I2.kIn F.cls F.sa F.no Ix (fun h3 tk' I' hk hsame => ?_) Within.nil (by simp)
    obtain ⟨o1, e1, e2, e3, e4, e5, e6⟩ := hsame ob ho
    have e6 := e6 hd
    have hfresh : H2 h2.objs.size = none := I2.hok.fresh (Nat.le_refl _)
    have hne : h2.objs.size ≠ a := (Nat.ne_of_lt hlt).symm
    have hM := mem_not R2.mem I2.kIn hfresh (Nat.le_refl _)
    obtain ⟨o2, f1, f2, f3, f4⟩ := I'
    have : o2 = o1 := Option.some.inj (f1.symm.trans e1)
    subst this
    obtain ⟨d2, f5, f6, f7⟩ : ∃ d, o2.dict = some d ∧ d ≠ a ∧ h3.Ns1 d (fun y => if y = f then some u else none) := by
      rcases f4 with ⟨z, _⟩ | z
      · rw [e6] at z; cases z
      · exact z
    have : d2 = h2.objs.size := by rw [e6] at f5; exact (Option.some.inj f5).symm
    subst this
    have okA : ∀ H3, ObjOk X.prog X.w H3 h3 a (.ext (ExcO a C (some h2.objs.size) true)) := fun H3 => obj_ext ⟨o2, vs, e1, by rw [e2]; exact hc, e6, by rw [e3]; exact hdt, fun z => by rw [e4]; exact hfr z⟩
    have okD : ∀ H3, ObjOk X.prog X.w H3 h3 h2.objs.size (.xd [(f, y)]) := fun H3 => ⟨_, f7, fun g => by
      by_cases c : g = f
      · subst c
        simp only [List.lookup, beq_self_eq_true, if_true]; exact ry
      · have hb : (g == f) = false := by simpa using c
        simp only [List.lookup, hb, if_neg c]; exact trivial⟩
    have I3 := inv_x (t' := tk') (o1 := .xd [(f, y)]) (o2 := .ext (ExcO a C (some h2.objs.size) true)) I2 ⟨_, hA⟩ (.inl ⟨hfresh, Nat.le_refl _⟩) hne (fun b v q1 q2 hb => hk b v q1 (fun o₀ dx hz hz2 z => by
      have : o₀ = ob := Option.some.inj (hz.symm.trans ho)
      subst this
      rw [hd] at hz2; cases hz2) hb) ⟨_, e1⟩ (let ⟨o, _, _, e, _⟩ := f7; ⟨o, e⟩) (okA _) (okD _)
    have gr : Grow H2 (upd (upd H2 h2.objs.size (.xd [(f, y)])) a (.ext (ExcO a C (some h2.objs.size) true))) := (grow_new hfresh).trans (grow_upd fun xs z => by rw [upd_ne hne.symm, hA] at z; cases z)
    refine ⟨σ, _, G, _, I3, g1.trans (g2.trans gr), R2.to gr (fun b v hb => ?_), q _ hM hne⟩
    by_cases c1 : b = a
    · subst c1; rw [mset_same] at hb; cases hb; exact upd_same
    · rw [mset_ne c1] at hb
      by_cases c2 : b = h2.objs.size
      · subst c2; rw [mset_same] at hb; cases hb
        exact ⟨[(f, y)], by rw [upd_ne c1, upd_same], y, [], rfl, Is.grow gr _ _ iv, rfl⟩
      · rw [mset_ne c2] at hb
        exact (R2.mem b v hb).stay gr fun w hw => by rw [upd_ne c1, upd_ne c2]; exact hw
  · have hA : H2 a = some (.ext (ExcO a C (some dx) true)) := R2.mem a _ ha
    obtain ⟨ys, hX, hF⟩ := R2.mem dx _ hdx
    obtain ⟨⟨ob, vs, ho, hc, hd, hdt, hfr⟩, _, _⟩ := I2.hok a _ hA
    obtain ⟨mA, hN, hR⟩ := I2.hok dx _ hX
    have Ix : h2.Inst a C mA := ⟨ob, ho, hc, fun c z => (by rw [hdt] at z; cases z), .inr ⟨dx, hd, hne, hN⟩⟩
    have hW : PySem.Within mA (ys.map (·.1)) := fun g hg => by
      have := hR g
      cases hl : ys.lookup g with
      | none =>
        rw [hl] at this
        cases hm : mA g with
        | none => exact absurd hm hg
        | some v => rw [hm] at this; exact this.elim
      | some v => exact List.mem_map.mpr ⟨(g, v), PySem.mem_of_lookup hl, rfl⟩
    have hyl : ys.length = fs.length := by
      have : ∀ {fs : List (Str × D)} {ys : List (Str × V)}, FsIs H2 fs ys → ys.length = fs.length := by
        intro fs
        induction fs with
        | nil => intro ys h; have h : ys = [] := h; rw [h]; rfl
        | cons p r ih =>
          intro ys h
          obtain ⟨v, ys', rfl, _, h2⟩ := h
          rw [List.length_cons, List.length_cons, ih h2]
      exact this hF
    refine store_x (ns := ys.map (·.1)) I2.kIn F.cls F.sa F.no Ix (fun h3 tk' I' hk hsame => ?_) hW (by rw [List.length_map, sizeLine_eq]; omega)
    obtain ⟨o1, e1, e2, e3, e4, e5, e6⟩ := hsame ob ho
    have e5 := e5 dx hd
    obtain ⟨o2, f1, f2, f3, f4⟩ := I'
    have : o2 = o1 := Option.some.inj (f1.symm.trans e1)
    subst this
    obtain ⟨d2, f5, f6, f7⟩ : ∃ d, o2.dict = some d ∧ d ≠ a ∧ h3.Ns1 d (fun y => if y = f then some u else mA y) := by
      rcases f4 with ⟨z, _⟩ | z
      · rw [e5] at z; cases z
      · exact z
    have : d2 = dx := by rw [e5] at f5; exact (Option.some.inj f5).symm
    subst this
    have okA : ∀ H3, ObjOk X.prog X.w H3 h3 a (.ext (ExcO a C (some d2) true)) := fun H3 => obj_ext ⟨o2, vs, e1, by rw [e2]; exact hc, e5, by rw [e3]; exact hdt, fun z => by rw [e4]; exact hfr z⟩
    have okD : ∀ H3, ObjOk X.prog X.w H3 h3 d2 (.xd (putF f y ys)) := fun H3 => ⟨_, f7, fun g => by
      rw [lookup_putF]
      by_cases c : g = f
      · rw [if_pos c, if_pos c]; exact ry
      · rw [if_neg c, if_neg c]; exact hR g⟩
    have I3 := inv_x (t' := tk') (o1 := .xd (putF f y ys)) (o2 := .ext (ExcO a C (some d2) true)) I2 ⟨_, hA⟩ (.inr ⟨_, hX⟩) hne (fun b v q1 q2 hb => hk b v q1 (fun o₀ dx hz hz2 z => by
      have : o₀ = ob := Option.some.inj (hz.symm.trans ho)
      subst this
      rw [hd] at hz2; cases hz2; exact q2 z) hb) ⟨_, e1⟩ (let ⟨o, _, _, e, _⟩ := f7; ⟨o, e⟩) (okA _) (okD _)
    have gr : Grow H2 (upd (upd H2 d2 (.xd (putF f y ys))) a (.ext (ExcO a C (some d2) true))) := (grow_upd fun xs z => by rw [hX] at z; cases z).trans (grow_upd fun xs z => by rw [upd_ne hne.symm, hA] at z; cases z)
    refine ⟨σ, _, G, _, I3, g1.trans (g2.trans gr), R2.to gr (fun b v hb => ?_), q⟩
    by_cases c1 : b = a
    · subst c1; rw [mset_same] at hb; cases hb; exact upd_same
    · rw [mset_ne c1] at hb
      by_cases c2 : b = d2
      · subst c2; rw [mset_same] at hb; cases hb
        exact ⟨putF f y ys, by rw [upd_ne c1, upd_same], FsIs.put (Is.grow gr _ _ iv) (FsIs.grow gr hF)⟩
      · rw [mset_ne c2] at hb
        exact (R2.mem b v hb).stay gr fun w hw => by rw [upd_ne c1, upd_ne c2]; exact hw
end
end D3

set_option Elab.async false
set_option linter.all false
set_option maxRecDepth 100000
set_option maxHeartbeats 4000000
/-! an error is made; it is raised -/
namespace D3
open PySem PySem.Spec PyProof.Rows L2 X1
/-- what an error's __init__ does -/
def spIni (C : Addr) (fs : List Str) : SpD := fun ds M Q => ∃ a vs, ds = .ref a :: vs ∧ vs.length = fs.length ∧ M a = some (.exc C none true) ∧ ∀ dx, M dx = none → dx ≠ a → Q .non (mset (mset M dx (.att (fs.zip vs))) a (.exc C (some dx) true))
/-- an own error class, ready to be made -/
structure Mkr (P : Program) (w : World) (K : PySem.W.Frag) (mg : Str → Option Value) (base : Heap) (k : Nat) (x : Str) (C P0 : Addr) (fs : List Str) : Prop where
  ex : ∃ (fI : Addr) (fd : FuncData) (ps : List Str) (oI : Obj), FnOk P w K mg base CX0 k fI fd ps (liftSp K (spIni C fs)) ∧ Binds K fd ps [] ∧ PySem.W.findIn K (.ref C) "__init__" = some (some (.ref fI)) ∧ K.lookup fI = some oI ∧ oI.cls = .type "function"
  mg : mg x = some (.ref C)
  kp : PySem.W.keepIn K (.ref C) = true
  cls : Err K C P0
theorem mset_again {M : MH} {a dx : Addr} {o1 o2 o3 : MO} (h : dx ≠ a) : mset (mset (mset M a o1) dx o2) a o3 = mset (mset M dx o2) a o3 := by
  funext b
  by_cases c : b = a
  · subst c; rw [mset_same, mset_same]
  · rw [mset_ne c, mset_ne c]
    by_cases c2 : b = dx
    · subst c2; rw [mset_same, mset_same]
    · rw [mset_ne c2, mset_ne c2, mset_ne c]
section
variable {X : Cx} {G : Ga} {M : MH} {e : Expr} {es : List Expr} {pos cpos : Pos} {E : EndsD} {Q : DK} {R : Ga → XQ}
theorem make_run {k : Nat} {x : Str} {C P0 : Addr} {fs : List Str} {pins : List (Addr × Obj)} {σ : St} {H : Hp} {s : Shared} {us : List Value} {vs : List V} {ds : List D} {Qv : Value → Shared → Prop} (m : Mkr X.prog X.w X.K X.mg X.base k x C P0 fs) (hr : Room (k + 1) X.A)
    (I : L2.Inv X pins σ H s) (Rl : Rel X G M σ H) (r : Vals vs us) (i : IsL H ds vs) (hl : ds.length = fs.length) (hsz : fs.length ≤ 100)
    (hQ : ∀ a dx H' s', L2.Inv X pins σ H' s' → Grow H H' → Rel X G (mset (mset M dx (.att (fs.zip ds))) a (.exc C (some dx) true)) σ H' → s.heap.objs.size ≤ a → M a = none → M dx = none → dx ≠ a → Qv (.ref a) s') :
    wpAny (model X.prog X.w) X.A (call (.ref C) us) Qv X.xe s := by
  obtain ⟨fI, fd, ps, oI, F, hb, hi, hfI, hfc⟩ := m.ex
  obtain ⟨h, g, d, t, os⟩ := s
  have hul : us.length = fs.length := by rw [← hl, i.len, r.length]
  refine make_exc I.kIn m.cls hi hfI hfc (fun h' hm => ?_) (by rw [hul, sizeLine_eq]; omega)
  obtain ⟨tt, he, _, _⟩ := hm.there
  have fresh : H (h.objs.size + 1) = none := I.hok.fresh (Nat.le_succ _)
  have I2 : L2.Inv X pins σ (upd H (h.objs.size + 1) (.ext (ExcO (h.objs.size + 1) C none true))) ⟨h', g, d, t, os⟩ := I.laid (t' := t) hm.keeps (Nat.le_succ _) (obj_ext ⟨_, _, he, rfl, rfl, rfl, fun _ => ⟨rfl, tt, rfl⟩⟩)
  have hMa := mem_not Rl.mem I.kIn fresh (Nat.le_succ _)
  have R2 : Rel X G (mset M (h.objs.size + 1) (.exc C none true)) σ (upd H (h.objs.size + 1) (.ext (ExcO (h.objs.size + 1) C none true))) := Rl.to (grow_new fresh) (Rl.mem.lay fresh upd_same)
  have i2 : IsL (upd H (h.objs.size + 1) (.ext (ExcO (h.objs.size + 1) C none true))) (.ref (h.objs.size + 1) :: ds) (.ref (h.objs.size + 1) :: vs) := isl_cons.mpr ⟨_, _, rfl, is_ref.mpr rfl, i.grow (grow_new fresh)⟩
  have hsp : liftSp X.K (spIni C fs) (.ref (h.objs.size + 1) :: vs) (upd H (h.objs.size + 1) (.ext (ExcO (h.objs.size + 1) C none true))) (fun v H' => ∃ dO M', Grow (upd H (h.objs.size + 1) (.ext (ExcO (h.objs.size + 1) C none true))) H' ∧ Is H' dO v ∧ MemOk X.K M' H' ∧ dO = .non ∧ ∃ dx, mset M (h.objs.size + 1) (.exc C none true) dx = none ∧ dx ≠ h.objs.size + 1 ∧ M' = mset (mset (mset M (h.objs.size + 1) (.exc C none true)) dx (.att (fs.zip ds))) (h.objs.size + 1) (.exc C (some dx) true)) E0 :=
    ⟨_, _, fun dO M' => dO = .non ∧ ∃ dx, mset M (h.objs.size + 1) (.exc C none true) dx = none ∧ dx ≠ h.objs.size + 1 ∧ M' = mset (mset (mset M (h.objs.size + 1) (.exc C none true)) dx (.att (fs.zip ds))) (h.objs.size + 1) (.exc C (some dx) true), i2, R2.mem,
      ⟨_, ds, rfl, hl, mset_same, fun dx h1 h2 => ⟨rfl, dx, h1, h2, rfl⟩⟩, fun v H' dO M' g i m q => ⟨dO, M', g, i, m, q⟩⟩
  have r2 : Vals (V.ref (h.objs.size + 1) :: vs) (Value.ref (h.objs.size + 1) :: us) := .cons rfl r
  have hl2 : (Value.ref (h.objs.size + 1) :: us ++ []).length = ps.length := by
    rw [List.append_nil, ← r2.length]
    exact F.len _ _ _ _ hsp
  have hbb := hb (⟨h', g, d, t, os⟩ : Shared) (Value.ref (h.objs.size + 1) :: us) I2.kIn hl2
  rw [List.append_nil] at hbb
  refine wpAny_call (codeAny_mono (F.run _ X.stack _ _ ⟨Value.ref (h.objs.size + 1) :: us, []⟩ (Value.ref (h.objs.size + 1) :: us) _ _ E0 (hr.make C us []) (I2.env0.make C us []) hbb r2 hsp) fun r s' hq' => ?_)
  cases r with
  | error e => exact hq'.elim
  | ok fl =>
    cases fl with
    | ret u =>
      obtain ⟨v, H', I3, rv, dO, M', g3, i3, m3, rfl, dx, h1, h2, rfl⟩ := I2.after hq'
      rw [is_non] at i3; subst i3
      cases rv
      have h1' : M dx = none := by rw [mset_ne h2] at h1; exact h1
      rw [mset_again h2] at m3
      have g4 : Grow H H' := (grow_new fresh).trans g3
      exact ⟨rfl, hQ _ dx H' s' I3 g4 (Rl.to g4 m3) (Nat.le_succ _) hMa h1' h2⟩
    | next => exact False.elim hq'
    | brk => exact False.elim hq'
    | cont => exact False.elim hq'
theorem ev_make {k : Nat} {x : Str} {p : Pos} {C P0 : Addr} {fs : List Str} (m : Mkr X.prog X.w X.K X.mg X.base k x C P0 fs) {j : Nat} (hr : Room j X.A) (hj : k + 1 ≤ j) (hsz : fs.length ≤ 100)
    (h : AV X G M (e :: es) fun ds M1 => ds.length = fs.length ∧ ∀ a dx, M1 a = none → M1 dx = none → dx ≠ a → Q (.ref a) (mset (mset M1 dx (.att (fs.zip ds))) a (.exc C (some dx) true))) (hg : Gl X x := by rfl) (hdb : (x == ("__debug__" : Str)) = false := by decide)
    (he : starEach (e :: es) X.env = (false, eval e X.env) :: starEach es X.env := by rfl) (hpl : (backTo pos (starEach es X.env)).any (·.1) = false := by rfl) : EV X G M (.Call (.Name x p) (e :: es) [] pos) Q := by
  intro pins s σ H I Rl
  refine wpAny_Call_Name_kw (ld_glob I hg m.mg ?_ hdb)
  refine PySem.W.callWith_K (h₀ := X.base) I.ok.mod.kin m.kp (thn (h pos pins s σ H I Rl) fun us s1 ⟨vs, H1, ds, M1, I1, r1, g1, i1, R1, hl, q1⟩ => ⟨I1.kIn, ?_⟩) he hpl
  exact make_run m (hr.mono hj) I1 R1 r1 i1 hl hsz fun a dx H' s' I' g' R' _ h1 h2 h3 => ⟨.ref a, H', .ref a, _, I', rfl, g1.trans g', is_ref.mpr rfl, R', q1 a dx h1 h2 h3⟩
def delH (H : Hp) (a : Addr) : Hp := fun b => if b = a then none else H b
theorem inv_del {pins : List (Addr × Obj)} {σ : St} {H : Hp} {s : Shared} {a : Addr} (I : L2.Inv X pins σ H s) (hA : ∃ φ, H a = some (.ext φ)) : L2.Inv X pins σ (delH H a) s := by
  obtain ⟨φ, hA⟩ := hA
  have same : ∀ b, b ≠ a → delH H a b = H b := fun b hb => by unfold delH; rw [if_neg hb]
  have keep : ∀ b u, H b = some u → (∀ φ, u ≠ .ext φ) → delH H a b = some u := fun b u e n => by
    rw [same b (fun z => by rw [z, hA] at e; cases e; exact n _ rfl)]; exact e
  have nn : ∀ b, H b = none → delH H a b = none := fun b e => by
    unfold delH
    split
    · rfl
    · exact e
  have := I.un (H' := delH H a) (h' := s.heap) (t' := s.toks) ⟨fun b o hb _ _ _ => hb, fun b o hb _ _ _ => ⟨o.slots, hb⟩, fun b o _ n _ => nn b n, fun b o hb _ => ⟨o, hb⟩, fun b xs e => keep b _ e (fun _ z => by cases z), fun b o u e => keep b _ e (fun _ z => by cases z), fun b ps e => ⟨#[], by rw [keep b _ e (fun _ z => by cases z)]; simp⟩⟩
    (fun b u e => by
      have hba : b ≠ a := fun z => by unfold delH at e; rw [if_pos z] at e; cases e
      rw [same b hba] at e
      exact (I.hok b u e).stay (fun _ _ _ z => z) (fun c hc => keep c _ hc (fun _ z => by cases z)) (fun c xs hc => keep c _ hc (fun _ z => by cases z)))
  exact this
theorem grow_del {H : Hp} {a : Addr} (hA : ∃ φ, H a = some (.ext φ)) : Grow H (delH H a) := fun b xs e => by
  obtain ⟨φ, hA⟩ := hA
  unfold delH
  rw [if_neg (fun z => by rw [z, hA] at e; cases e)]; exact e
/-- raise C(..) -/
theorem ex_raise {k : Nat} {x : Str} {p : Pos} {C P0 : Addr} {fs : List Str} (m : Mkr X.prog X.w X.K X.mg X.base k x C P0 fs) {j : Nat} (hr : Room j X.A) (hj : k + 1 ≤ j) (hc : X.calm = true) (T : Thr X R) (hsz : fs.length ≤ 100)
    (h : AV X G M (e :: es) fun ds M1 => ds.length = fs.length ∧ ∀ dx, M1 dx = none → R G C (fs.zip ds) (mset M1 dx (.att (fs.zip ds)))) (hg : Gl X x := by rfl) (hdb : (x == ("__debug__" : Str)) = false := by decide)
    (he : starEach (e :: es) X.env = (false, eval e X.env) :: starEach es X.env := by rfl) (hpl : (backTo cpos (starEach es X.env)).any (·.1) = false := by rfl) : EX X G M (.Raise (some (.Call (.Name x p) (e :: es) [] cpos)) none pos) E := by
  intro pins s σ H I Rl
  obtain ⟨nm, q, N, bs, sn, sub, ab, col, dd, k0, k1, k2, k3, k5, hC⟩ := m.cls.ex
  rw [arm_exec_Raise]
  refine wpAny_bind (wpAny_standAt (raise_made (C := C) (nm := nm) (q := q) (N := N) (bs := bs) (bm := .ref P0 :: VE) (hdct := true) (sn := sn) (sub := sub) (ab := ab) (col := col) (dd := dd) (k0 := k0) (k1 := k1) (k2 := k2) (k3 := k3) (k5 := k5) (newId := "ValueError.__new__") (by simp [VE]) (I.ok.hd hc) ?_))
  refine wpAny_bind (wpAny_mono (Q := fun v s₁ => ∃ e t de, v = .ref e ∧ s₁.heap.get? C = some (excClassObj nm q C N bs (.ref P0 :: VE) true sn sub ab col dd k0 k1 k2 k3 k5 "ValueError.__new__") ∧ s₁.heap.get? e = some { cls := .ref C, dict := de, data := .fields #[.ref t, .none, .none, .none, .bool false, .none] } ∧ X.xe (.ref e) s₁) ?_ (fun v s₃ h₃ => wpAny_bind (wpAny_standAt (wpAny_pure h₃))) fun _ _ x => x)
  refine wpAny_Call_Name_kw (ld_glob I hg m.mg ?_ hdb)
  refine PySem.W.callWith_K (h₀ := X.base) I.ok.mod.kin m.kp (thn (h cpos pins s σ H I Rl) fun us s1 ⟨vs, H1, ds, M1, I1, r1, g1, i1, R1, hl, q1⟩ => ⟨I1.kIn, ?_⟩) he hpl
  refine make_run m (hr.mono hj) I1 R1 r1 i1 hl hsz fun a dx H' s' I' g' R' hs0 h1 h2 h3 => ?_
  have hA : H' a = some (.ext (ExcO a C (some dx) true)) := R'.mem a _ mset_same
  obtain ⟨ys, hX, hF⟩ := R'.mem dx (.att (fs.zip ds)) (by rw [mset_ne h3, mset_same])
  obtain ⟨⟨ob, vs', ho, hcl, hd, hdt, hfr⟩, _, _⟩ := I'.hok a _ hA
  obtain ⟨hsl, tt, hvs⟩ := hfr rfl
  have hob : ob = { cls := .ref C, dict := some dx, data := .fields #[.ref tt, .none, .none, .none, .bool false, .none] } := by
    obtain ⟨c1, c2, c3, c4⟩ := ob
    simp only at hcl hd hdt hsl
    rw [hcl, hd, hdt, hsl, hvs]
  have gd : Grow H' (delH H' a) := grow_del ⟨_, hA⟩
  have I3 := inv_del I' ⟨_, hA⟩
  refine ⟨a, tt, some dx, rfl, I'.kIn _ _ hC, by rw [← hob]; exact ho, ?_⟩
  refine T pins σ (delH H' a) s' a C dx ys (fs.zip ds) G (mset M1 dx (.att (fs.zip ds))) I3 ⟨⟨ob, vs', ho, hcl, hd, hdt, (by rw [hvs]; show 1 < 6; omega), .inl (by rw [hvs]; rfl)⟩, h3, ?_, ?_⟩ (Nat.le_trans I1.sz hs0) (fun p hp => Nat.ne_of_lt (Nat.lt_of_lt_of_le (Heap.lt_size (I1.pin p hp).1) hs0)) (R'.to gd (fun b v hb => ?_)) (FsIs.grow gd hF) (q1 dx h2)
  · unfold delH; rw [if_neg h3]; exact hX
  · unfold delH; rw [if_pos rfl]
  · have hba : b ≠ a := fun z => by
      rw [z, mset_ne (fun z => h3 z.symm), h1] at hb; cases hb
    refine (R'.mem b v (by rw [mset_ne hba]; exact hb)).stay gd fun w hw => ?_
    unfold delH; rw [if_neg hba]; exact hw
end
end D3

set_option Elab.async false
set_option linter.all false
set_option maxRecDepth 100000
set_option maxHeartbeats 4000000
/-! try .. except C as n -/
namespace D3
open PySem PySem.Spec PyProof.Rows L2 X1
section
variable {X : Cx} {pins : List (Addr × Obj)} {σ : St} {H : Hp} {s : Shared}
/-- the name goes behind the suite -/
theorem goes {M : Model} {A : Around} {E : Value → Shared → Prop} {i : Nat} {n : Str} {pos : Pos} {Q : Unit → Shared → Prop} (I : L2.Inv X pins σ H s) (hN : X.N.Nodup) (hi : X.N[i]? = some n) (hl : X.env.scope.names.lookup n = some .local)
    (h : ∀ s', L2.Inv X pins (σ.set i none) H s' → Q () s') : wpAny M A (do bindName X.env n .none; unbindBehindTheSuite X.env n pos) Q E s := by
  obtain ⟨m, hn, hloc⟩ := id I.loc
  have hcls : (X.env.scope.kind == .class || (X.env.scope.kind == .module && X.env.locals != X.env.globals)) = false := by rw [I.ok.kind]; rfl
  refine wpAny_nameGoes_keeps hl hn hcls fun h' v hn' hs => h _ ?_
  have nl : ∀ b o, X.s₀.heap.get? b = some o → b ≠ X.env.locals := fun b o e => Nat.ne_of_lt (Nat.lt_of_lt_of_le (Heap.lt_size e) I.ok.above)
  refine ⟨I.ok, I.os, I.bare, ⟨fun b o e nb hb hx => (hs.2 b (nl b o e)).trans (I.base.keep b o e nb hb hx), fun b o e nb hb hx => ?_, I.base.free, fun b o e hx => ?_, I.base.tups, I.base.frzs, I.base.tbls⟩, ⟨_, hn', fun j y v' e1 e2 e3 => ?_⟩, fun y c e => ?_, I.free, I.freeC, fun p hp => ?_, fun b ob e => ?_, by simpa using I.len⟩
  · obtain ⟨sl, e1⟩ := I.base.slot b o e nb hb hx
    exact ⟨sl, (hs.2 b (nl b o e)).trans e1⟩
  · obtain ⟨o', e1⟩ := I.base.there b o e hx
    exact ⟨o', (hs.2 b (nl b o e)).trans e1⟩
  · by_cases hj : j = i
    · subst hj
      have hlt : j < σ.length := by rw [I.len]; exact (List.getElem?_eq_some_iff.mp hi).1
      rw [List.getElem?_set_self hlt] at e2
      cases e2
    · rw [List.getElem?_set_ne (Ne.symm hj)] at e2
      obtain ⟨u', r', q⟩ := hloc j y v' e1 e2 e3
      refine ⟨u', r', ?_⟩
      rcases q with ⟨k, e⟩ | ⟨k, c, e, z⟩
      · refine .inl ⟨k, ?_⟩
        have hy : y ≠ n := fun e => hj (nodup_ix hN e1 (e ▸ hi))
        simp [hy, e]
      · exact .inr ⟨k, c, e, z.sameBut hs (I.cne y c e)⟩
  · obtain ⟨w', z⟩ := I.cell y c e
    exact ⟨w', z.sameBut hs (I.cne y c e)⟩
  · obtain ⟨e, nb, ne, nf, d⟩ := I.pin p hp
    exact ⟨(hs.2 p.1 ne).trans e, nb, ne, nf, d⟩
  · refine (I.hok b ob e).stay (fun c w' hc q => (hs.2 c ?_).trans q) (fun _ q => q) fun _ _ q => q
    rintro rfl
    rcases hc with rfl | hc
    · rw [I.free] at e; cases e
    · rw [I.free] at hc; cases hc
/-- the context of the suite -/
abbrev Cx.suite (X : Cx) (a : Addr) : Cx := { X with A := X.A.mark (some (.ref a)), calm := false, xe := fun _ _ => False }
theorem Inv.suite (I : L2.Inv X pins σ H s) (a : Addr) : L2.Inv (Cx.suite X a) pins σ H s :=
  ⟨⟨I.ok.mod, I.ok.kind, I.ok.glob, I.ok.blt, I.ok.above, I.ok.inj, I.ok.has, I.ok.cab, fun z => (by cases z), I.ok.frames, I.ok.stk, I.ok.exf, I.ok.bs, I.ok.bsz, I.ok.noex, I.ok.exfs, I.ok.funs, I.ok.frf⟩, I.os, I.bare, I.base, I.loc, I.cell, I.free, I.freeC, I.pin, I.hok, I.len⟩
theorem Inv.unsuite {a : Addr} (I : L2.Inv (Cx.suite X a) pins σ H s) (ok : X.Ok) : L2.Inv X pins σ H s := ⟨ok, I.os, I.bare, I.base, I.loc, I.cell, I.free, I.freeC, I.pin, I.hok, I.len⟩
/-- an error lands: it is tracked from here on -/
theorem lands {a C dx : Addr} {fs : List (Str × V)} {h' : Heap} (I : L2.Inv X pins σ H s) (fl : Flies H s.heap a C dx fs) (hsz : X.s₀.heap.objs.size ≤ a) (hp : ∀ p ∈ X.pn ++ pins, p.1 ≠ a) (hst : X.stack = X.env :: X.outer) (hfr : X.env.frame = some X.env.locals)
    (ps : X1.Passed ((X.env :: X.outer).filterMap (·.frame)) a s.heap h') (hx : ExcAt h' a (.ref C) (some dx)) : L2.Inv X pins σ (upd H a (.ext (ExcO a C (some dx) false))) { s with heap := h' } := by
  obtain ⟨oe, vs, he, hc, hd, hdt, _, _⟩ := fl.at_
  have hsf : ∀ b, b ∈ (X.env :: X.outer).filterMap (·.frame) ↔ b = X.env.locals ∨ b ∈ X.fs := fun b => by
    rw [List.filterMap_cons, hfr]
    exact List.mem_cons
  obtain ⟨m, hn, _⟩ := id I.loc
  have hal : a ≠ X.env.locals := fun z => by
    obtain ⟨o, es, ep, ho, hdd, _⟩ := hn
    rw [← z, he] at ho
    cases ho
    rw [hdt] at hdd; cases hdd
  have hac : ∀ x c, X.env.cells.lookup x = some c → c ≠ a := fun x c e z => by
    obtain ⟨v, o, ho, hdd⟩ := I.cell x c e
    rw [z, he] at ho
    cases ho
    rw [hdt] at hdd; cases hdd
  have := I.step (g' := s.gens) (t' := s.toks) (d' := s.drawn) (ch := [a]) (h' := h') (H' := upd H a (.ext (ExcO a C (some dx) false)))
    (fun b hb => by
      have e : b = a := by simpa using hb
      subst e
      exact ⟨.inr hsz, hal, hac, hp⟩)
    (fun b o n1 n2 n3 e _ => ps.1 b o e (by simpa using n3) (by rw [hsf]; simp only [not_or]; exact ⟨n1, n2⟩))
    (fun b o n1 n2 n3 e _ => ps.2 b o e (by simpa using n3))
    (fun b o n3 e n => by rw [upd_ne (by simpa using n3)]; exact n)
    (fun b o n3 e => let ⟨sl, q⟩ := ps.2 b o e (by simpa using n3); ⟨_, q⟩)
    (fun b xs e => by rw [upd_ne (fun z => by rw [z, fl.free] at e; cases e)]; exact e)
    (fun b o u e => by rw [upd_ne (fun z => by rw [z, fl.free] at e; cases e)]; exact e)
    (fun b p e => ⟨#[], by rw [upd_ne (fun z => by rw [z, fl.free] at e; cases e), e]; simp⟩)
    (fun m hm => by
      obtain ⟨o, es, ep, ho, hdd, r⟩ := hm
      obtain ⟨sl, q⟩ := ps.2 _ o ho hal.symm
      exact ⟨_, es, ep, q, hdd, r⟩)
    (fun b u e => by
      by_cases hb : b = a
      · subst hb
        rw [upd_same] at e; cases e
        obtain ⟨oe', vs', he', hc', hd', hdt', _, _⟩ := hx
        exact obj_ext ⟨oe', vs', he', hc', hd', hdt', fun z => by cases z⟩
      · rw [upd_ne hb] at e
        refine (I.hok b u e).stay (fun c v hc hv => ?_) (fun c hc => by rw [upd_ne (fun z => by rw [z, fl.free] at hc; cases hc)]; exact hc) (fun c xs hc => by rw [upd_ne (fun z => by rw [z, fl.free] at hc; cases hc)]; exact hc)
        have htr : H c ≠ none := by
          rcases hc with rfl | hc
          · rw [e]; simp
          · rw [hc]; simp
        refine ps.1 c v hv (fun z => htr (by rw [z]; exact fl.free)) fun z => htr (I.stkFree c ?_)
        rw [hst]; exact z) I.bare
  exact this
end
section
variable {X : Cx} {G : Ga} {M : MH} {body : List Stmt} {b0 : Stmt} {suite : List Stmt} {pos np hpos : Pos} {E : EndsD} {R : Ga → XQ}
theorem Rel.drop {σ : St} {H : Hp} {i : Nat} (Rl : Rel X G M σ H) : Rel X (G.set i none) M (σ.set i none) H := by
  refine ⟨fun j d e => ?_, Rl.mem⟩
  by_cases hj : j = i
  · subst hj
    rw [List.getElem?_set] at e
    rw [if_pos rfl] at e
    split at e <;> cases e
  · rw [List.getElem?_set_ne (Ne.symm hj)] at e ⊢
    exact Rl.loc j d e
/-! ### a body's statements, without what is behind the tuples -/
def SPT (X : Cx) (pins : List (Addr × Obj)) (E : EndsD) (f : Flow) (s' : Shared) : Prop :=
  match f with
  | .next => ∃ σ' H' G' M', L2.Inv X pins σ' H' s' ∧ Rel X G' M' σ' H' ∧ E.nx G' M'
  | .ret u => ∃ v σ' H' d M', L2.Inv X pins σ' H' s' ∧ RelV v u ∧ Is H' d v ∧ MemOk X.K M' H' ∧ E.rt d M'
  | _ => False
def EXt (X : Cx) (G : Ga) (M : MH) (st : List Stmt) (E : EndsD) : Prop :=
  ∀ (pins : List (Addr × Obj)) (s : Shared) (σ : St) (H : Hp), L2.Inv X pins σ H s → Rel X G M σ H → wpAny (model X.prog X.w) X.A (execs st X.env) (SPT X pins E) X.xe s
theorem ext_of {st : List Stmt} {nx : Ga → MH → Prop} {rt : DK} (h : EXs X G M st { nx := nx, rt := rt }) : EXt X G M st { nx := nx, rt := rt } := fun pins s σ H I Rl => thn (h pins s σ H I Rl) fun f s' q => by
  cases f with
  | next => obtain ⟨σ', H', G', M', I', g', R', q⟩ := q; exact ⟨σ', H', G', M', I', R', q⟩
  | brk => obtain ⟨_, _, _, _, _, _, _, z⟩ := q; exact z.elim
  | cont => obtain ⟨_, _, _, _, _, _, _, z⟩ := q; exact z.elim
  | ret u => obtain ⟨v, σ', H', d, M', I', r, g', i', m', q⟩ := q; exact ⟨v, σ', H', d, M', I', r, i', m', q⟩
theorem ext_cons {st : Stmt} {sts : List Stmt} {nx : Ga → MH → Prop} {rt : DK} (h : EX X G M st { nx := fun G' M' => EXt X G' M' sts { nx := nx, rt := rt }, rt := rt }) : EXt X G M (st :: sts) { nx := nx, rt := rt } := fun pins s σ H I Rl => by
  refine wpAny_execs_cons (thn (h pins s σ H I Rl) fun f s' q => ?_)
  cases f with
  | next => obtain ⟨σ', H', G', M', I', g', R', q⟩ := q; exact q pins s' σ' H' I' R'
  | brk => obtain ⟨_, _, _, _, _, _, _, z⟩ := q; exact z.elim
  | cont => obtain ⟨_, _, _, _, _, _, _, z⟩ := q; exact z.elim
  | ret u => obtain ⟨v, σ', H', d, M', I', r, g', i', m', q⟩ := q; exact ⟨v, σ', H', d, M', I', r, i', m', q⟩
/-- the context of a try's body -/
abbrev Cx.tried (X : Cx) (pins : List (Addr × Obj)) (xe' : Value → Shared → Prop) : Cx := { X with pn := X.pn ++ pins, xe := xe' }
theorem Inv.tried {pins : List (Addr × Obj)} {σ : St} {H : Hp} {s : Shared} (I : L2.Inv X pins σ H s) (xe' : Value → Shared → Prop) : L2.Inv (Cx.tried X pins xe') [] σ H s :=
  ⟨⟨I.ok.mod, I.ok.kind, I.ok.glob, I.ok.blt, I.ok.above, I.ok.inj, I.ok.has, I.ok.cab, I.ok.hd, I.ok.frames, I.ok.stk, I.ok.exf, I.ok.bs, I.ok.bsz, I.ok.noex, I.ok.exfs, I.ok.funs, I.ok.frf⟩, I.os, I.bare, I.base, I.loc, I.cell, I.free, I.freeC, fun p hp => I.pin p (by simpa using hp), I.hok, I.len⟩
theorem Inv.untried {pins pins' : List (Addr × Obj)} {σ : St} {H : Hp} {s : Shared} {xe' : Value → Shared → Prop} (I : L2.Inv (Cx.tried X pins xe') pins' σ H s) (ok : X.Ok) : L2.Inv X pins σ H s :=
  ⟨ok, I.os, I.bare, I.base, I.loc, I.cell, I.free, I.freeC, fun p hp => I.pin p (List.mem_append_left _ hp), I.hok, I.len⟩
def QT (X : Cx) (pins : List (Addr × Obj)) (rest : List Stmt) (E : EndsD) : Flow → Shared → Prop
  | .next, s' => wpAny (model X.prog X.w) X.A (execs rest X.env) (SPT X pins E) X.xe s'
  | .ret u, s' => SPT X pins E (.ret u) s'
  | _, _ => False
theorem ext_try {i : Nat} {n cn : Str} {P0 : Addr} {rest : List Stmt} {nx : Ga → MH → Prop} {rt : DK} (hok : ∀ pins xe', Thr (Cx.tried X pins xe') R → EXs (Cx.tried X pins xe') G M body { nx := fun G' M' => EXt X G' M' rest { nx := nx, rt := rt }, rt := rt }) (hst : X.stack = X.env :: X.outer) (hfr : X.env.frame = some X.env.locals)
    (hN : X.N.Nodup) (hi : X.N[i]? = some n) (hl : X.env.scope.names.lookup n = some .local) (hf : X.fn n = true) (hm : X.mg cn = some (.ref P0)) (hg : Gl X cn) (b : Err0 X.K P0)
    (hR : ∀ G1 C fs M1, R G1 C fs M1 → Err X.K C P0 ∧ ∀ a dx, M1 a = none → (M1 dx = none ∨ ∃ fs', M1 dx = some (.att fs')) → dx ≠ a →
      EXs (Cx.suite X a) (G1.set i (some (.ref a))) (mset (mset M1 dx (.att fs)) a (.exc C (some dx) false)) (b0 :: suite) { nx := fun G2 M2 => EXt X (G2.set i none) M2 rest { nx := nx, rt := rt }, rt := fun _ _ => False })
    (hdb : (cn == ("__debug__" : Str)) = false := by decide) : EXt X G M (.Try body [.ExceptHandler (some (.Name cn np)) (some n) (b0 :: suite) hpos] [] [] pos :: rest) { nx := nx, rt := rt } := by
  intro pins s σ H I Rl
  have ok := I.ok
  refine wpAny_execs_cons (wpAny_mono (Q := QT X pins rest { nx := nx, rt := rt }) ?_ (fun f s' h => ?_) fun _ _ x => x)
  rotate_left
  · cases f with
    | next => exact h
    | brk => exact h.elim
    | cont => exact h.elim
    | ret u => exact h
  refine wpAny_Try_except ?_
  generalize hxe : (fun e s₁ => wpAny (model X.prog X.w) X.A (noteFrame e X.env) (fun _ s₂ => wpAny (model X.prog X.w) X.A (setFlight e none) (fun _ s₃ => wpAny (model X.prog X.w) X.A (handleBy e X.env [.ExceptHandler (some (.Name cn np)) (some n) (b0 :: suite) hpos]) (QT X pins rest { nx := nx, rt := rt }) X.xe s₃) X.xe s₂) X.xe s₁) = xe'
  have T : Thr (Cx.tried X pins xe') R := by
    intro pins' σ1 H1 s1 a C dx fs ds G1 M1 I1 fl hsz hp Rl1 hF hr
    obtain ⟨hErr, hsuite⟩ := hR G1 C ds M1 hr
    have J : L2.Inv X pins σ1 H1 s1 := Inv.untried I1 ok
    have Rl1 : Rel X G1 M1 σ1 H1 := ⟨Rl1.loc, Rl1.mem⟩
    show xe' (.ref a) s1
    rw [← hxe]
    have hA : X.A.frames = some (X.env :: X.outer) := by rw [← hst]; exact ok.frames
    have hS : s1.heap.FunFrames X.base (X.env :: X.outer) := by rw [← hst]; exact J.stack
    refine note (base := X.base) hA hS hfr fl.at_ fun h' ps hx => ?_
    have J2 := lands J fl hsz (fun p hp' => hp p (List.mem_append_left _ hp')) hst hfr ps hx
    have gr : Grow H1 (upd H1 a (.ext (ExcO a C (some dx) false))) := grow_new fl.free
    have hM1 : M1 a = none := by
      cases e : M1 a with
      | none => rfl
      | some u =>
        rcases (Rl1.mem a u e).there with ⟨v, q⟩ | ⟨v, q⟩
        · rw [fl.free] at q; cases q
        · have h1 := Heap.lt_size (ok.mod.kin a v q)
          exact absurd (Nat.lt_of_lt_of_le h1 (Nat.le_trans ok.bsz hsz)) (Nat.lt_irrefl _)
    have hMd : M1 dx = none ∨ ∃ fs', M1 dx = some (.att fs') := by
      cases e : M1 dx with
      | none => exact .inl rfl
      | some u =>
        have hu := Rl1.mem dx u e
        cases u with
        | att fs' => exact .inr ⟨fs', rfl⟩
        | lst _ => obtain ⟨_, z, _⟩ := hu; rw [fl.own] at z; cases z
        | dic _ => obtain ⟨_, z, _⟩ := hu; rw [fl.own] at z; cases z
        | exc _ _ _ => have z : H1 dx = _ := hu; rw [fl.own] at z; cases z
        | ro _ =>
          obtain ⟨_, z, _⟩ := hu
          rcases z with (z | ⟨o, z⟩) | ⟨o, _, _, z, _⟩
          · rw [fl.own] at z; cases z
          · rw [fl.own] at z; cases z
          · have := kf_of J dx _ z
            rw [fl.own] at this; cases this
    have Rl2 : Rel X G1 (mset (mset M1 dx (.att ds)) a (.exc C (some dx) false)) σ1 (upd H1 a (.ext (ExcO a C (some dx) false))) := Rl1.to gr (fun c v hc => by
      by_cases c1 : c = a
      · subst c1; rw [mset_same] at hc; cases hc; exact upd_same
      · rw [mset_ne c1] at hc
        by_cases c2 : c = dx
        · subst c2; rw [mset_same] at hc; cases hc
          exact ⟨fs, by rw [upd_ne c1]; exact fl.own, FsIs.grow gr hF⟩
        · rw [mset_ne c2] at hc
          exact (Rl1.mem c v hc).stay gr fun w hw => by rw [upd_ne c1]; exact hw)
    obtain ⟨hh, g, d, t, os⟩ := s1
    obtain ⟨oe', vs', he', hc', _⟩ := id hx
    refine wpAny_handleBy_cons (codeAny_handlers_test (ld_glob (Inv.suite J2 a) hg hm (caught J2.kIn hErr b he' hc' ?_) hdb)) (by intro q; cases q)
    refine codeAny_handlers_suite_as (X1.rest hx (store_ok J2 hN hi (Or.inl hl) (v := .ref a) rfl (fun s4 I4 => ?_) (.inl hf)))
    have hil : i < σ1.length := by rw [J.len]; exact (List.getElem?_eq_some_iff.mp hi).1
    have Rl3 : Rel (Cx.suite X a) (G1.set i (some (.ref a))) (mset (mset M1 dx (.att ds)) a (.exc C (some dx) false)) (σ1.set i (some (.ref a))) (upd H1 a (.ext (ExcO a C (some dx) false))) := Rel.set (X := Cx.suite X a) ⟨Rl2.loc, Rl2.mem⟩ hil (is_ref.mpr rfl)
    refine wpAny_mono (hsuite a dx hM1 hMd fl.ne pins s4 _ _ (Inv.suite I4 a) Rl3) (fun f s5 h5 => ?_) fun _ _ z => z.elim
    cases f with
    | next =>
      obtain ⟨σ', H', G', M', I', g', R', q⟩ := h5
      refine goes (Inv.unsuite I' ok) hN hi hl fun s6 I6 => ?_
      exact q pins s6 _ H' I6 (Rel.drop (X := X) ⟨R'.loc, R'.mem⟩)
    | brk => obtain ⟨_, _, _, _, _, _, _, z⟩ := h5; exact z.elim
    | cont => obtain ⟨_, _, _, _, _, _, _, z⟩ := h5; exact z.elim
    | ret u => obtain ⟨_, _, _, _, _, _, _, _, _, _, z⟩ := h5; exact z.elim
  refine wpAny_mono (hok pins xe' T [] s σ H (Inv.tried I xe') ⟨Rl.loc, Rl.mem⟩) (fun f s1 h1 => ?_) fun e s1 h1 => h1
  cases f with
  | next =>
    obtain ⟨σ', H', G', M', I', g', R', q⟩ := h1
    refine wpAny_execs_nil ?_
    exact q pins s1 σ' H' (Inv.untried I' ok) ⟨R'.loc, R'.mem⟩
  | brk => obtain ⟨_, _, _, _, _, _, _, z⟩ := h1; exact z.elim
  | cont => obtain ⟨_, _, _, _, _, _, _, z⟩ := h1; exact z.elim
  | ret u =>
    obtain ⟨v, σ', H', d, M', I', r, g', i', m', q⟩ := h1
    exact ⟨v, σ', H', d, M', Inv.untried I' ok, r, i', m', q⟩
end
section
variable {P : Program} {w : World} {K : PySem.W.Frag} {mg : Str → Option Value} {base : Heap}
/-- a def from which no error leaves, by such a body -/
theorem fn_T {x qual : Str} {st : Stmt} {f : Addr} {fd : FuncData} {N ps : List Str} {k : Nat} {sp : SpD} (F : Fun K x qual st f fd) (S : FnScope N ps (defScope st)) (len : ∀ ds M Q, sp ds M Q → ds.length = ps.length)
    (hbody : ∀ (cdv : Value) (A : Around) (outer : List Env) (s : Shared) (H : Hp) (EE : XK) (ds : List D) (M : MH) (Q : DK), Room k (A.deeper (envOfC qual (defScope st) s.heap.objs.size f cdv)) → sp ds M Q →
      EXt (cxOf CX0 P w K mg base N qual (defScope st) f cdv A outer s H EE).nox (startG N ds) M (defBody st) { nx := fun _ M' => Q .non M', rt := Q }) : FnOk P w K mg base CX0 (k + 1) f fd ps (liftSp K sp) := by
  refine F.ok S (fun vs H Q E h => ?_) (fun cdv A outer s H vs Q E hr h => ?_)
  · obtain ⟨ds, M, Qd, i, _, h, _⟩ := h
    rw [← i.len]; exact len _ _ _ h
  obtain ⟨ds, M, Qd, i, m, h, k⟩ := h
  have B := hbody cdv A outer s H E ds M Qd hr h
  refine ⟨fun D σ' H' => σ' = L2.start N vs ∧ H' = H ∧ D.nx = (fun _ H' => Q .non H') ∧ D.rt = Q, ?_, rfl, rfl, rfl, rfl⟩
  intro pins s' σ' H' D I ⟨e1, e2, e3, e4⟩
  subst e1; subst e2
  refine thn (B pins s' _ _ I (rel_start i m)) fun fl s'' q => ?_
  cases fl with
  | next =>
    obtain ⟨σ2, H2, G2, M2, I2, R2, q2⟩ := q
    refine ⟨σ2, H2, I2, ?_⟩
    rw [e3]
    exact k .non H2 .non M2 (un_grow I2.base) (is_non.mpr rfl) R2.mem q2
  | brk => exact q.elim
  | cont => exact q.elim
  | ret u =>
    obtain ⟨v, σ2, H2, d, M2, I2, r2, i2, m2, q2⟩ := q
    refine ⟨v, σ2, H2, I2, r2, ?_⟩
    rw [e4]
    exact k v H2 d M2 (un_grow I2.base) i2 m2 q2
end
end D3

set_option Elab.async false
set_option linter.all false
set_option maxRecDepth 100000
set_option maxHeartbeats 4000000
/-! an error asked: its fields, its classes -/
namespace X1
open PySem PySem.W PySem.Calls Builtin Builtin.ObjectAttr
/-- an own error class, of any place -/
structure ErrG (K : Frag) (C : Addr) : Prop where
  ex : ∃ nm q N bs bm sn sub ab col dd k0 k1 k2 k3 k5 newId, K.lookup C = some (excClassObj nm q C N bs bm true sn sub ab col dd k0 k1 k2 k3 k5 newId) ∧ bm.contains (.type "BaseException") = true
theorem Err.g {K : Frag} {C P : Addr} (e : Err K C P) : ErrG K C := by
  obtain ⟨nm, q, N, bs, sn, sub, ab, col, dd, k0, k1, k2, k3, k5, hC⟩ := e.ex
  exact ⟨_, _, _, _, _, _, _, _, _, _, _, _, _, _, _, _, hC, by simp [VE]⟩
theorem Err0.g {K : Frag} {C : Addr} (e : Err0 K C) : ErrG K C := by
  obtain ⟨nm, q, N, bs, sn, sub, ab, col, dd, k0, k1, k2, k3, k5, newId, hC⟩ := e.ex
  exact ⟨_, _, _, _, _, _, _, _, _, _, _, _, _, _, _, _, hC, by simp [VE]⟩
/-- what is asked of the class when an error is asked for its class -/
structure Knd (K : Frag) (C : Addr) : Prop where
  cls : ErrG K C
  ga : findIn K (.ref C) "__getattribute__" = some (some (.builtin "BaseException.__getattribute__"))
  gh : findIn K (.ref C) "__getattr__" = some none
  ca : findIn K (.ref C) "__class__" = some (some (.builtin "object.__class__"))
  gt : specialIn K (.builtin "object.__class__") "__get__" = some (some (.builtin "getset_descriptor.__get__"))
  tk : takesIn K (.builtin "object.__class__") = some true
  mr : mroIn K C (.type "object") = some true
  is : (clsIn K C).isSome = true
section
variable {K : Frag} {prog : Program} {w : World} {A : Around} {E : Value → Shared → Prop} {h : Heap} {g : Array GenState} {d : Drawn} {t : Nat} {os : OsState} {C P x : Addr} {ox : Obj} {od : Option Obj}
theorem ga_checkG {M : Model} {o : Obj} {nameV : Value} {Q : Unit → Shared → Prop} (X : K.In h) (e : ErrG K C) (hx : h.get? x = some o) (hc : o.cls = .ref C) (hq : Q () ⟨h, g, d, t, os⟩) :
    wpAny M A (checkBuiltinCall "BaseException.__getattribute__" ⟨[.ref x, nameV], []⟩) Q E ⟨h, g, d, t, os⟩ := by
  obtain ⟨nm, q, N, bs, bm, sn, sub, ab, col, dd, k0, k1, k2, k3, k5, nid, hC, hb⟩ := e.ex
  have hC := X _ _ hC
  have z1 : builtinKind "BaseException.__getattribute__" = some .slot := by decide +kernel
  have z2 : splitId "BaseException.__getattribute__" = some ("BaseException", "__getattribute__") := by decide +kernel
  have hcB : (Value.ref C :: bm).contains (.type "BaseException") = true := by rw [List.contains_cons, hb, Bool.or_true]
  have ha := F.args_bexc_ga (.ref x) nameV
  simp only [checkBuiltinCall, z1, z2]
  refine wpAny_bind ?_
  unfold isInstance
  repeat (first | (with_reducible refine wpAny_loadPart_at hx ?_; rw [hc]) | (with_reducible refine wpAny_isSubtype_exc hC ?_; rw [hcB]) | wp_step)
  exact hq
theorem find_cls (k : Knd K C) : findObj K C od "__class__" = some (.bind (.builtin "getset_descriptor.__get__") (.builtin "object.__class__")) := by
  obtain ⟨cd, hc⟩ := Option.isSome_iff_exists.mp k.is
  unfold findObj
  rw [hc, Option.bind_some, k.ca, Option.bind_some]
  simp [k.gt, k.tk]
theorem class_x {Q : Option Value → Shared → Prop} (X : K.In h) (k : Knd K C) (I : InstAt h x ox C od) (hq : Q (some (.ref C)) ⟨h, g, d, t + 1, os⟩) : wpAny (model prog w) A (getAttr? (.ref x) "__class__") Q E ⟨h, g, d, t, os⟩ := by
  have hx := I.at_
  have hc := I.cls
  have hng := k.ga
  have hgh := k.gh
  have FB := F.attrBase_ValueError
  have f3 := FB.ga.bind (.ref x)
  have hx2 : (Value.builtin "BaseException.__getattribute__" == Value.builtin "object.__getattribute__") = false := by decide +kernel
  have hx1 : (onTheHeap (Value.ref C) && Value.builtin "BaseException.__getattribute__" == Value.builtin "object.__getattribute__") = false := by rw [hx2]; rfl
  have hf := find_cls (od := od) k
  have L0 := I.type (M := model prog w)
  have L1 := looks_find (M := model prog w) X I hf
  unfold getAttr? getAttrBy?
  refine wpAny_bind (wpAny_mkText (wpAny_bind (wpAny_attempt ?_)))
  repeat (any_goals (first | assumption | with_reducible refine look X hng ?_ | with_reducible refine look X hgh ?_ | (with_reducible refine wpAny_loadPart_at hx ?_; rw [hc]) | wp_step))
  refine codeAny_call_builtin FB.ga.plain F.entry_bexc_ga (ga_checkG X k.cls hx hc ?_)
  unfold Builtin.«object.__getattribute__»
  repeat (first | (with_reducible refine wpAny_bind (L1.at ?_)) | (with_reducible refine wpAny_loadPart_at hx ?_; rw [hc]) | wp_step)
  refine class_get (s := ⟨h, g, d, t + 1, os⟩) X I k.mr ?_
  exact wpAny_pure (wpAny_pure (wpAny_pure hq))
theorem kitx_x (k : Knd K C) : KitX K (.ref x) (.ref C) (fun h => ∃ ox od, InstAt h x ox C od) where
  ty := fun _ _ _ ⟨_, _, I⟩ => I.type
  it := fun _ _ X _ => by
    obtain ⟨cd, hcd⟩ := Option.isSome_iff_exists.mp k.is
    unfold clsIn at hcd
    split at hcd
    · rename_i ho
      intro A' Q' E' s' z q
      unfold isType loadHead
      exact wpAny_bind (wpAny_loadPart (z _ _ (X _ _ ho)) (wpAny_pure q))
    · cases hcd
  ne := fun h tp dd its n sl X htp => by
    obtain ⟨cd, hcd⟩ := Option.isSome_iff_exists.mp k.is
    refine Bool.eq_false_iff.mpr fun q => ?_
    have e : C = tp := Value.ref.inj (beq_iff_eq.mp q)
    subst e
    unfold clsIn at hcd
    split at hcd
    · rename_i ho
      cases (X _ _ ho).symm.trans htp
    · cases hcd
  ca := fun {_ _ _ _ _ s} X ⟨_, _, I⟩ q => by
    obtain ⟨hh, gg, dd, tt, oo⟩ := s
    exact class_x X k I q
end
end X1
namespace D3
open PySem PySem.Spec PyProof.Rows L2 X1
/-- the fields lie there -/
def Lies (H : Hp) (dd : Option Addr) : Prop := match dd with
  | none => True
  | some dx => ∃ fs, H dx = some (.xd fs)
theorem inst_x {P : Program} {w : World} {H : Hp} {h : Heap} {a C : Addr} {dd : Option Addr} {fr : Bool} (ok : HOk P w H h) (ha : H a = some (.ext (ExcO a C dd fr))) (l : Lies H dd) : ∃ ox od, PySem.W.InstAt h a ox C od := by
  obtain ⟨⟨o, vs, e, h1, h2, h3, _⟩, _, _⟩ := ok a _ ha
  cases dd with
  | none => exact ⟨o, none, e, h1, by unfold PySem.W.notCls; rw [h3], by rw [h2]; trivial⟩
  | some dx =>
    obtain ⟨fs, hfs⟩ := l
    obtain ⟨mA, ⟨od, es, ep, hod, _⟩, _⟩ := ok dx _ hfs
    exact ⟨o, some od, e, h1, by unfold PySem.W.notCls; rw [h3], by rw [h2]; exact hod⟩
def LiesM (M : MH) (dd : Option Addr) : Prop := match dd with
  | none => True
  | some dx => ∃ fs, M dx = some (.att fs)
theorem LiesM.of {K : PySem.W.Frag} {M : MH} {H : Hp} {dd : Option Addr} (m : MemOk K M H) (l : LiesM M dd) : Lies H dd := by
  cases dd with
  | none => trivial
  | some dx => obtain ⟨fs, e⟩ := l; obtain ⟨ys, q, _⟩ := m dx _ e; exact ⟨ys, q⟩
section
variable {X : Cx} {G : Ga} {M : MH} {e e2 : Expr} {es : List Expr} {pos : Pos} {Q : DK}
theorem ne_opq {a : Addr} : Value.ref a ≠ .builtin "__main__.__loader__#opaque" := fun z => by cases z
theorem call_isX1 : CallR X (.builtin "isinstance") (fun xs H Q => ∃ a C dd fr b c u, xs = [.ref a, c] ∧ H a = some (.ext (ExcO a C dd fr)) ∧ Lies H dd ∧ Knd X.K C ∧ (∀ u', RelV c u' → u' = u) ∧ PySem.W.kitOne X.K (.ref C) u = some b ∧ Q (.bl b) H) := by
  intro pins s σ H xs us Q I r h
  obtain ⟨a, C, dd, fr, b, c, u, rfl, ha, l, k, hu, e, q⟩ := h
  obtain ⟨u1, u2, rfl, r1, r2⟩ := vals2 r
  obtain rfl : u1 = Value.ref a := r1
  have := hu _ r2
  subst this
  exact PySem.W.kia_one (kitx_x k) I.kIn (inst_x I.hok ha l) e ne_opq fun tk => ⟨.bl b, H, I.tok tk, rfl, q⟩
theorem call_isXT : CallR X (.builtin "isinstance") (fun xs H Q => ∃ a C dd fr b tp, ∃ cs : List Addr, xs = [.ref a, .ref tp] ∧ H a = some (.ext (ExcO a C dd fr)) ∧ Lies H dd ∧ Knd X.K C ∧ H tp = some (.tup (cs.map V.ref)) ∧ PySem.W.kitAny X.K (.ref C) (cs.map Value.ref) = some b ∧ Q (.bl b) H) := by
  intro pins s σ H xs us Q I r h
  obtain ⟨a, C, dd, fr, b, tp, cs, rfl, ha, l, k, ht, e, q⟩ := h
  obtain ⟨u1, u2, rfl, r1, r2⟩ := vals2 r
  obtain rfl : u1 = Value.ref a := r1
  obtain rfl : u2 = Value.ref tp := r2
  obtain ⟨_, its, hv, ⟨c1, c2, c3, c4⟩, ho, hc, n, hd⟩ := I.hok tp _ ht
  have hi : ∀ (cs : List Addr) (its : List Value), Vals (cs.map V.ref) its → its = cs.map Value.ref := by
    intro cs
    induction cs with
    | nil => intro its hv; cases hv; rfl
    | cons c r ih =>
      intro its hv
      cases hv with
      | cons h1 h2 =>
        obtain rfl := (show _ = Value.ref c from h1)
        rw [ih _ h2]; rfl
  obtain rfl := hi cs its hv
  simp only at hc hd
  subst hc; subst hd
  exact PySem.W.kia_tup (kitx_x k) I.kIn (inst_x I.hok ha l) ho e ne_opq fun tk => ⟨.bl b, H, I.tok tk, rfl, q⟩
theorem ev_isX {p : Pos} (hm : X.mg "isinstance" = none) (h : AV X G M [e, e2] fun ds M1 => ∃ a C dd fr b, M1 a = some (.exc C dd fr) ∧ LiesM M1 dd ∧ Knd X.K C ∧ ((∃ c, ds = [.ref a, .ref c] ∧ PySem.W.kitOne X.K (.ref C) (.ref c) = some b) ∨ ∃ T, ds = [.ref a, .ty T] ∧ PySem.W.kitOne X.K (.ref C) (.type T) = some b) ∧ Q (.bl b) M1)
    (hg : Gl X "isinstance" := by rfl) (he : starEach [e, e2] X.env = (false, eval e X.env) :: starEach [e2] X.env := by rfl) (hpl : (backTo pos (starEach [e2] X.env)).any (·.1) = false := by rfl) : EV X G M (.Call (.Name "isinstance" p) [e, e2] [] pos) Q :=
  ev_callB call_isX1 hm bootIsi (h.mono fun ds M1 ⟨a, C, dd, fr, b, ha, l, k, hc, q⟩ => fun H xs kf hx m => by
    rcases hc with ⟨c, rfl, hc⟩ | ⟨T, rfl, hc⟩
    · obtain ⟨v, w, rfl, hv, hw⟩ := isl2 hx
      rw [is_ref] at hv hw; subst hv; subst hw
      exact ⟨a, C, dd, fr, b, .ref c, .ref c, rfl, m a _ ha, l.of m, k, fun u' z => z, hc, fun _ => ⟨Grow.refl _, .bl b, M1, is_bl.mpr rfl, m, q⟩⟩
    · obtain ⟨v, w, rfl, hv, hw⟩ := isl2 hx
      rw [is_ref] at hv; rw [is_ty] at hw; subst hv; subst hw
      exact ⟨a, C, dd, fr, b, .ty T, .type T, rfl, m a _ ha, l.of m, k, fun u' z => z, hc, fun _ => ⟨Grow.refl _, .bl b, M1, is_bl.mpr rfl, m, q⟩⟩) hg (by decide) (by decide) he hpl
theorem ev_isXT {p : Pos} (hm : X.mg "isinstance" = none) (h : AV X G M [e, e2] fun ds M1 => ∃ a C dd fr b, ∃ cs : List Addr, M1 a = some (.exc C dd fr) ∧ LiesM M1 dd ∧ Knd X.K C ∧ ds = [.ref a, .tup (cs.map D.ref)] ∧ PySem.W.kitAny X.K (.ref C) (cs.map Value.ref) = some b ∧ Q (.bl b) M1)
    (hg : Gl X "isinstance" := by rfl) (he : starEach [e, e2] X.env = (false, eval e X.env) :: starEach [e2] X.env := by rfl) (hpl : (backTo pos (starEach [e2] X.env)).any (·.1) = false := by rfl) : EV X G M (.Call (.Name "isinstance" p) [e, e2] [] pos) Q :=
  ev_callB call_isXT hm bootIsi (h.mono fun ds M1 ⟨a, C, dd, fr, b, cs, ha, l, k, e1, hc, q⟩ => fun H xs kf hx m => by
    subst e1
    obtain ⟨v, w, rfl, hv, hw⟩ := isl2 hx
    rw [is_ref] at hv; subst hv
    rw [is_tup] at hw
    obtain ⟨tp, ys, rfl, h1, h2⟩ := hw
    have hy : ∀ (cs : List Addr) (ys : List V), IsL H (cs.map D.ref) ys → ys = cs.map V.ref := by
      intro cs
      induction cs with
      | nil => intro ys h2; exact isl_nil.mp h2
      | cons c r ih =>
        intro ys h2
        obtain ⟨y, ys', rfl, i1, i2⟩ := isl_cons.mp h2
        rw [is_ref] at i1; subst i1
        rw [ih _ i2]; rfl
    obtain rfl := hy cs ys h2
    exact ⟨a, C, dd, fr, b, tp, cs, rfl, m a _ ha, l.of m, k, h1, hc, fun _ => ⟨Grow.refl _, .bl b, M1, is_bl.mpr rfl, m, q⟩⟩) hg (by decide) (by decide) he hpl
/-- a class's name -/
theorem ev_cls {x : Str} {C : Addr} (hm : X.mg x = some (.ref C)) (q : Q (.ref C) M) (hg : Gl X x := by rfl) (hd : (x == ("__debug__" : Str)) = false := by decide) : EV X G M (.Name x pos) Q := fun pins s σ H I Rl =>
  ld_glob I hg hm ⟨.ref C, H, .ref C, M, I, rfl, Grow.refl _, is_ref.mpr rfl, Rl, q⟩ hd
theorem handed_V {v : V} {u : Value} (r : RelV v u) : handedOut u = pure u := by
  cases v <;> first | (obtain ⟨t, rfl⟩ := r; rfl) | (cases r; rfl)
/-- e.f of an error -/
theorem ev_fldX {f : Str} (h : EV X G M e fun d M1 => ∃ a C P dx fr fs d', d = .ref a ∧ M1 a = some (.exc C (some dx) fr) ∧ dx ≠ a ∧ M1 dx = some (.att fs) ∧ ErrF X.K C P f ∧ fs.lookup f = some d' ∧ Q d' M1) (hbase : attributeBase e f X.env (eval e X.env) = eval e X.env := by rfl) : EV X G M (.Attribute e f pos) Q := by
  intro pins s σ H I Rl
  refine attr_of hbase (thn (h pins s σ H I Rl) fun u s1 ⟨x, H1, d, M1, I1, rx, g1, i1, R1, a, C, P, dx, fr, fs, d', e1, ha, hne, hd, F, hl, q⟩ => ?_)
  subst e1
  rw [is_ref] at i1; subst i1
  obtain rfl : u = Value.ref a := rx
  have hA : H1 a = some (.ext (ExcO a C (some dx) fr)) := R1.mem a _ ha
  obtain ⟨ys, hX, hF⟩ := R1.mem dx _ hd
  obtain ⟨⟨ob, vs, ho, hc, hdd, hdt, _⟩, _, _⟩ := I1.hok a _ hA
  obtain ⟨mA, hN, hR⟩ := I1.hok dx _ hX
  obtain ⟨y, hy, iy⟩ := hF.get hl
  obtain ⟨hh, gg, dd, tt, oo⟩ := s1
  have Ix : hh.Inst a C mA := ⟨ob, ho, hc, fun c z => (by rw [hdt] at z; cases z), .inr ⟨dx, hdd, hne, hN⟩⟩
  have hr := hR f
  rw [hy] at hr
  cases hm : mA f with
  | none => rw [hm] at hr; exact hr.elim
  | some v =>
    rw [hm] at hr
    exact load_x I1.kIn F.cls F.ga F.gh F.no Ix hm (handed_V hr) ⟨y, H1, d', M1, I1.tok (tt + 1), hr, g1, iy, R1, q⟩
theorem obj_in {P : Program} {w : World} {H : Hp} {h : Heap} {a : Addr} {o : HO} (x : ObjOk P w H h a o) : ∃ u, h.get? a = some u := by
  induction o generalizing a with
  | lst xs => obtain ⟨_, _, _, _, e⟩ := x; exact ⟨_, e⟩
  | tup xs => obtain ⟨_, _, _, o, e, _⟩ := x; exact ⟨_, e⟩
  | dK kvs => obtain ⟨_, _, _, _, o, _, _, e, _⟩ := x; exact ⟨_, e⟩
  | dT kvs => obtain ⟨_, _, _, _, o, _, _, e, _⟩ := x; exact ⟨_, e⟩
  | set S n => obtain ⟨o, _, _, _, e, _⟩ := x; exact ⟨_, e⟩
  | ins C dx fs => obtain ⟨_, _, _, e, _⟩ := x; exact ⟨_, e⟩
  | own _ => exact x
  | xd fs => obtain ⟨_, ⟨o, _, _, e, _⟩, _⟩ := x; exact ⟨_, e⟩
  | rng lo hi => obtain ⟨_, _, _, e⟩ := x; exact ⟨_, e⟩
  | frz o u ih => exact ⟨_, x.1⟩
  | tbl ps => exact ⟨_, x⟩
  | met f y => exact ⟨_, x⟩
  | ext φ => exact x.2.1
theorem inv_new {pins : List (Addr × Obj)} {σ : St} {H : Hp} {s : Shared} {h' : Heap} {a C : Addr} (I : L2.Inv X pins σ H s) (k : ∀ b u, s.heap.get? b = some u → h'.get? b = some u) (ha : s.heap.get? a = none) (new : ExcO a C none true h') :
    H a = none ∧ L2.Inv X pins σ (upd H a (.ext (ExcO a C none true))) { s with heap := h' } := by
  have hn : H a = none := by
    cases e : H a with
    | none => rfl
    | some u => obtain ⟨v, q⟩ := obj_in (I.hok a u e); rw [ha] at q; cases q
  have old : ∀ b u, H b = some u → upd H a (.ext (ExcO a C none true)) b = some u := fun b u e => by rw [upd_ne (fun z => by rw [z, hn] at e; cases e)]; exact e
  refine ⟨hn, I.step (g' := s.gens) (t' := s.toks) (d' := s.drawn) (ch := []) (fun b hb => absurd hb (by simp)) (fun b o _ _ _ e _ => k b o e) (fun b o _ _ _ e _ => ⟨o.slots, k b o e⟩) (fun b o _ e n => by rw [upd_ne (fun z => by rw [z, ha] at e; cases e)]; exact n) (fun b o _ e => ⟨o, k b o e⟩)
    (fun b xs e => old b _ e) (fun b o u e => old b _ e) (fun b p e => ⟨#[], by rw [old b _ e]; simp⟩) (fun m ⟨o, es, ep, ho, r⟩ => ⟨o, es, ep, k _ _ ho, r⟩) (fun b u e => ?_) I.bare⟩
  by_cases hb : b = a
  · subst hb; rw [upd_same] at e; cases e; exact obj_ext new
  · rw [upd_ne hb] at e
    exact (I.hok b u e).stay (fun c v _ hv => k c v hv) (fun c hc => old c _ hc) (fun c xs hc => old c _ hc)
/-- the class above, made -/
structure Mk0 (P : Program) (w : World) (K : PySem.W.Frag) (mg : Str → Option Value) (x : Str) (C : Addr) : Prop where
  ex : ∃ nm q N bs sn sub ab col dd k0 k1 k2 k3 k5 mN, K.lookup C = some (excClassObj nm q C N bs VE true sn sub ab col dd k0 k1 k2 k3 k5 "ValueError.__new__") ∧ (∀ h : Heap, K.In h → h.Ns N mN) ∧ mN "__init__" = none
  mg : mg x = some (.ref C)
  kp : PySem.W.keepIn K (.ref C) = true
theorem ev_make0 {x : Str} {p : Pos} {C : Addr} (m : Mk0 X.prog X.w X.K X.mg x C) (h : AV X G M (e :: es) fun ds M1 => ds.length ≤ 100 ∧ ∀ a, M1 a = none → Q (.ref a) (mset M1 a (.exc C none true))) (hg : Gl X x := by rfl) (hdb : (x == ("__debug__" : Str)) = false := by decide)
    (he : starEach (e :: es) X.env = (false, eval e X.env) :: starEach es X.env := by rfl) (hpl : (backTo pos (starEach es X.env)).any (·.1) = false := by rfl) : EV X G M (.Call (.Name x p) (e :: es) [] pos) Q := by
  intro pins s σ H I Rl
  obtain ⟨nm, q, N, bs, sn, sub, ab, col, dd, k0, k1, k2, k3, k5, mN, hC, hn, hi⟩ := m.ex
  refine wpAny_Call_Name_kw (ld_glob I hg m.mg ?_ hdb)
  refine PySem.W.callWith_K (h₀ := X.base) I.ok.mod.kin m.kp (thn (h pos pins s σ H I Rl) fun us s1 ⟨vs, H1, ds, M1, I1, r1, g1, i1, R1, hl, q1⟩ => ⟨I1.kIn, ?_⟩) he hpl
  obtain ⟨hh, gg, dr, tt, oo⟩ := s1
  have hul : us.length ≤ sizeLine := by rw [sizeLine_eq, ← r1.length, ← i1.len]; omega
  refine wpAny_call_exc_sub F.excBase_ValueError (I1.kIn _ _ hC) (hn _ I1.kIn) hi (fun h' a hm => ?_) hul
  obtain ⟨t', he', _, _⟩ := hm.there
  obtain ⟨fresh, I2⟩ := inv_new I1 hm.keeps hm.new ⟨_, _, he', rfl, rfl, rfl, fun _ => ⟨rfl, t', rfl⟩⟩
  have hMa : M1 a = none := by
    cases e : M1 a with
    | none => rfl
    | some u =>
      rcases (R1.mem a u e).there with ⟨v, z⟩ | ⟨v, z⟩
      · rw [fresh] at z; cases z
      · cases (I1.kIn _ _ z).symm.trans hm.new
  have R2 : Rel X G (mset M1 a (.exc C none true)) σ (upd H1 a (.ext (ExcO a C none true))) := R1.to (grow_new fresh) (R1.mem.lay fresh upd_same)
  exact ⟨.ref a, _, .ref a, _, I2, rfl, g1.trans (grow_new fresh), is_ref.mpr rfl, R2, q1 a hMa⟩
end
end D3

set_option Elab.async false
set_option linter.all false
set_option maxRecDepth 100000
set_option maxHeartbeats 4000000
namespace D3
open PySem PySem.Spec PyProof.Rows L2
section
variable {X : Cx} {G : Ga} {M : MH} {pos : Pos} {Q : DK}
/-- {k: v} -/
theorem ev_dict1 {ke ve : Expr} (h : ∀ p, M p = none → EV X G (mset M p (.dic [])) ke fun dk M1 => EV X G M1 ve fun dv M2 => ∃ sk, dk = .str sk ∧ M2 p = some (.dic []) ∧ Q (.ref p) (mset M2 p (.dic [(sk, dv)]))) : EV X G M (.Dict [some ke] [ve] pos) Q := by
  intro pins s σ H I R
  have hn := I.hok.fresh (Nat.le_refl s.heap.objs.size)
  have hM := mem_not R.mem I.kIn hn (Nat.le_refl _)
  have I0 := I.laid (a := s.heap.objs.size) (o := .dK []) (h' := s.heap.push { cls := .type "dict", data := .dict #[] }) (t' := s.toks) (fun _ _ q => Heap.get?_push_of_some _ q) (Nat.le_refl _) (dk_empty s.heap I.big)
  have R0 : Rel X G (mset M s.heap.objs.size (.dic [])) σ (upd H s.heap.objs.size (.dK [])) := R.to (grow_new hn) (R.mem.lay hn ⟨[], upd_same, rfl⟩)
  refine wpAny_Dict_walk (knd := mixKind X.prog X.w) rfl rfl (by simp) (Nat.le_of_ble_eq_true rfl) (pairTrees_cons_walk (thn (h _ hM pins _ σ _ I0 R0) fun u s1 ⟨x, H1, dk, M1, I1, rx, g1, i1, R1, q1⟩ => thn (q1 pins s1 σ H1 I1 R1) fun w2 s2 ⟨y, H2, dv, M2, I2, ry, g2, i2, R2, sk, e, hp, q⟩ => pairTrees_nil_walk ?_))
  subst e
  rw [is_str] at i1; subst i1
  obtain ⟨ys, hd2, hys⟩ := R2.mem _ _ hp
  obtain rfl : ys = [] := hys
  have rel : VV (([(Sum.inr sk, y)] : List (Key × V)).map fun kv => (kV kv.1, kv.2)) [(u, w2)] := .cons ⟨rx, ry⟩ .nil
  obtain ⟨rs, c, rk⟩ := carries_of (P := X.prog) (w := X.w) rel
  obtain ⟨z, hd, vs0, r0, dd⟩ := dk_of I2.hok hd2
  cases r0
  refine ⟨rs, c, dd, fun h' dd' hs => ?_⟩
  have he : ∃ q, h'.get? s.heap.objs.size = some q := let ⟨q, _, _, hq, _⟩ := dd'; ⟨q, hq⟩
  have I3 := d_write (t' := s2.toks + 1) I2 (by rw [hd2]; exact True.intro) hs he (dk_new (kvs := mergeK [] [(Sum.inr sk, y)]) (by rw [sizeLine_eq]; show 1 ≤ _; omega) hd (rk.merge .nil) dd')
  have gr : Grow H2 (upd H2 s.heap.objs.size (.dK (mergeK [] [(Sum.inr sk, y)]))) := grow_upd fun xs z => by rw [hd2] at z; cases z
  refine ⟨.ref s.heap.objs.size, _, .ref s.heap.objs.size, _, I3, rfl, (grow_new hn).trans (g1.trans (g2.trans gr)), is_ref.mpr rfl, R2.to gr (fun b v hb => ?_), q⟩
  by_cases hc : b = s.heap.objs.size
  · subst hc; rw [mset_same] at hb; cases hb
    exact ⟨[(Sum.inr sk, y)], upd_same, y, [], rfl, Is.grow gr _ _ i2, rfl⟩
  · rw [mset_ne hc] at hb
    exact (R2.mem b v hb).stay gr fun w hw => by rw [upd_ne hc]; exact hw
end
end D3

set_option Elab.async false
set_option linter.all false
set_option maxRecDepth 100000
set_option maxHeartbeats 4000000
namespace D3
open PySem PySem.Spec PyProof.Rows L2
section
variable {X : Cx} {G : Ga} {M : MH} {elt tg iter e : Expr} {scope : Scope} {pos : Pos} {Q : DK} {own : List Str} {js : List Nat} {N : List Str} {cl : List (Str × Addr)}
end
end D3

set_option Elab.async false
set_option linter.all false
set_option maxRecDepth 100000
set_option maxHeartbeats 4000000
namespace D3
open PySem PySem.Spec PyProof.Rows L2
section
variable {X : Cx} {G : Ga} {M : MH} {elt tg iter e : Expr} {scope : Scope} {pos : Pos} {Q : DK} {own : List Str} {js : List Nat} {N : List Str} {cl : List (Str × Addr)}
/-- y = [elt for tg in iter if ..], y a name of the def: the store lies within the comprehension -/
theorem ex_compI {wi : TI} {ifs : List Expr} {E : EndsD} {y : Str} {py spos : Pos} (jj : Nat) (T : CompOk X own js N scope cl) (hxe : X.xe = fun _ _ => False) (hc : X.calm = true) (hi : PI X tg iter wi) (hN : X.N.Nodup) (hj : X.N[jj]? = some y) (hy : Loc X.env.scope y) (hyf : X.fn y = true ∨ X.env.scope.names.lookup y = some .local)
    (hsw : swapsWith (.ListComp elt [⟨tg, iter, ifs, 0⟩] scope pos) (some (.Name y py)) spos.line X.env = pure true)
    (h : ∀ σ H, KF X.K H → Rel X G M σ H → wi σ H fun J H1 => Grow H H1 ∧ ∃ (M1 : MH) (ds : List D) (Iv : Addr → Nat → List D → MH → Prop), Rel X G M1 σ H1 ∧
      (∀ q i acc M' H', Grow H1 H' → MemOk X.K M' H' → Iv q i acc M' → (i = ds.length → J.stop i H') ∧ (i < ds.length → J.go i H' ∧ ∀ x H2, J.yld i H' x H2 → Grow H' H2 ∧ (∀ b o, H' b = some o → H2 b = some o) ∧ ∃ d, ds[i]? = some d ∧ Is H2 d x)) ∧ (∀ q, M1 q = none → Iv q 0 [] (mset M1 q (.lst []))) ∧
      (∀ Y : Cx, (∃ C s H fp, Y = compCx X N scope cl C s H fp) → ∀ q i acc M' d, ds[i]? = some d → Iv q i acc M' → M' q = some (.lst acc) → GV Y (compG own js G) M' tg d fun G3 M3 => M3 = M' ∧ Sub (compG own js G) G3 ∧ TVs Y G3 M' ifs fun k M4 => M4 = M' ∧ if k = true then EV Y G3 M' elt fun o M5 => M5 q = some (.lst acc) ∧ acc.length < sizeLine ∧ Iv q (i + 1) (acc ++ [o]) (mset M5 q (.lst (acc ++ [o]))) else Iv q (i + 1) acc M') ∧
      ∀ q acc M', Iv q ds.length acc M' → M' q = some (.lst acc) → E.nx (G.set jj (some (.ref q))) M')
    (hs : ∀ x, foldedSetIterable iter X.env x = pure x := by intro _; rfl) : EX X G M (.Assign [.Name y py] (.ListComp elt [⟨tg, iter, ifs, 0⟩] scope pos) spos) E := by
  intro pins s σ H I R
  rw [exec_Assign_Name_used _ _ _ _ hsw]
  refine wpAny_bind (wpAny_standAt (wpAny_bind ?_))
  show wpAny _ X.A (do let _ ← comprehension (.ListComp elt [⟨tg, iter, ifs, 0⟩] scope pos) scope X.env _ (newList []) false (eval iter X.env) (some (assign (.Name y py) X.env))) _ _ s
  refine wpAny_bind (wpAny_mono (wpAny_comprehension_free (use := some (assign (.Name y py) X.env)) (Q := fun _ s' => SPD X pins H E .next s') rfl hs T.clos T.kind T.names (thn (hi pins s σ H _ I (h σ H (kf_of I) R)) fun v s1 h1 => thn h1 fun itv s2 h2 => ?_)) (fun _ s' hq => wpAny_pure (wpAny_pure hq)) fun _ _ e => e)
  obtain ⟨it, fp, tn, J, H2, e, I2, TT, st2, f2, g2, M1, ds, Iv, R2, walks, iv0, block, fin⟩ := h2
  subst e
  refine wpAny_newObj_type ?_ (by show 0 ≤ sizeLine; exact Nat.zero_le _)
  have hq : H2 s2.heap.objs.size = none := I2.hok.fresh (Nat.le_refl _)
  have I3 : Inv X pins σ (upd H2 s2.heap.objs.size (.lst [])) { s2 with heap := s2.heap.push { cls := .type "list", dict := none, data := .seq ([] : List Value).toArray } } :=
    I2.laid (t' := s2.toks) (fun b u e => Heap.get?_push_of_some _ e) (Nat.le_refl _) ⟨Nat.zero_le _, [], 0, .nil, Heap.get?_push_size _ rfl⟩
  have gq : Grow H2 (upd H2 s2.heap.objs.size (.lst [])) := grow_new hq
  have mq : M1 s2.heap.objs.size = none := R2.mem.fresh hq (kf_of I3)
  have R3 : Rel X G (mset M1 s2.heap.objs.size (.lst [])) σ (upd H2 s2.heap.objs.size (.lst [])) := R2.to gq (R2.mem.lay hq ⟨[], upd_same, isl_nil.mpr rfl⟩)
  have f3 : ∀ b ∈ fp, FpOk X pins (upd H2 s2.heap.objs.size (.lst [])) b := fun b hb => by
    refine ⟨?_, (f2 b hb).2⟩
    rw [upd_ne]
    · exact (f2 b hb).1
    · intro z
      obtain ⟨o, e, _⟩ := TT.obj _ _ st2 b hb
      rw [z] at e
      exact absurd (Heap.lt_size e) (Nat.lt_irrefl _)
  have ft : ∀ b ∈ fp, ∃ o, (s2.heap.push { cls := .type "list", dict := none, data := .seq ([] : List Value).toArray }).get? b = some o := fun b hb => by
    obtain ⟨o, e, _⟩ := TT.obj _ _ st2 b hb
    exact ⟨o, Heap.get?_push_of_some _ e⟩
  have stq : tn 0 (s2.heap.push { cls := .type "list", dict := none, data := .seq ([] : List Value).toArray }) := TT.keep _ _ _ st2 fun b hb o e => Heap.get?_push_of_some _ e
  generalize s2.heap.objs.size = q at hq I3 gq mq R3 f3 ⊢
  refine wpAny_newFunctionEnv (T.nocell) (by intro y hy; simp at hy) (fun h1 hns1 hsb1 => ?_) T.kind
  generalize hH3 : upd H2 q (.lst []) = H3 at I3 R3 f3 gq
  generalize hs3 : ({ s2 with heap := s2.heap.push { cls := .type "list", dict := none, data := .seq ([] : List Value).toArray } } : Shared) = s3 at I3 hns1 hsb1 ⊢
  have es3 : s3.heap = s2.heap.push { cls := .type "list", dict := none, data := .seq ([] : List Value).toArray } := by rw [← hs3]
  rw [← es3] at stq ft
  have hk1 : ∀ b o, s3.heap.get? b = some o → h1.get? b = some o := fun b o e => hsb1.extBut b o (Nat.ne_of_lt (Heap.lt_size e)) (Heap.get?_push_of_some _ e)
  obtain ⟨σc, Ic, Rc⟩ := comp_ok (tk := s3.toks + ([] : List (Str × Value)).length) T I3 f3 ft (by simpa using hns1) hk1 R3
  have stc : tn 0 h1 := TT.keep _ _ _ stq fun b hb o e => hk1 b o e
  have hC : ∃ C, C = s3.heap.objs.size := ⟨_, rfl⟩
  obtain ⟨C, hC⟩ := hC
  rw [← hC] at Ic Rc
  generalize hY : compCx X N scope cl C s3 H3 fp = Y at Ic Rc
  have blockY := block Y ⟨C, s3, H3, fp, hY.symm⟩
  have yA : Y.A = X.A := by rw [← hY]; rfl
  have yp : Y.prog = X.prog := by rw [← hY]; rfl
  have yw : Y.w = X.w := by rw [← hY]; rfl
  have yK : Y.K = X.K := by rw [← hY]; rfl
  have yc : Y.calm = true := by rw [← hY]; exact hc
  have yx : Y.xe = fun _ _ => False := by rw [← hY]; exact hxe
  have ye : Y.env = compEnvC scope cl C X.env := by rw [← hY]; rfl
  have ypn : Y.pn = [] := by rw [← hY]; rfl
  have yex : Y.ex = fp := by rw [← hY]; rfl
  have fpY : ∀ {H' : Hp}, (∀ b ∈ fp, H' b = none) → ∀ b ∈ fp, FpOk Y [] H' b := fun {H'} hn b hb => by
    have o1 := Ic.ok.exf b (by rw [yex]; exact hb)
    refine ⟨hn b hb, o1.1, Ic.ok.exfs b (by rw [yex]; exact hb), .inl (by rw [yex]; exact hb), o1.2, fun p hp => ?_⟩
    rw [ypn] at hp; exact absurd hp (by simp)
  have loop : ∀ s4 : Shared, s4 = { s3 with heap := h1, toks := s3.toks + ([] : List (Str × Value)).length } →
      codeAny (model X.prog X.w) X.A (.compLoop (.ListComp elt [⟨tg, iter, ifs, 0⟩] scope pos) 0 (.ref it) (.ref q) (compEnvC scope cl C X.env)) (compPost (model X.prog X.w) X.A X.xe (some (assign (.Name y py) X.env)) (fun _ s' => SPD X pins H E .next s') (.ref q) C) s4 := by
    rintro s4 rfl
    refine compLoop_own (fun m s' => ∃ i σ' H' acc M', Inv Y [] σ' H' s' ∧ Grow H3 H' ∧ Rel Y (compG own js G) M' σ' H' ∧ M' q = some (.lst acc) ∧ Iv q i acc M' ∧ tn i s'.heap ∧ (∀ b ∈ fp, H' b = none) ∧ i ≤ ds.length ∧ m = ds.length - i) ?_ ds.length
      ⟨0, σc, H3, [], mset M1 q (.lst []), Ic, Grow.refl _, Rc, mset_same, iv0 q mq, stc, fun b hb => (f3 b hb).1, Nat.zero_le _, rfl⟩
    rintro m s5 ⟨i, σ5, H5, acc, M5, I5, g5, R5, m5, v5, st5, fr5, hin, rfl⟩
    obtain ⟨wstop, wgo⟩ := walks q i acc M5 H5 (gq.trans g5) (by rw [← yK]; exact R5.mem) v5
    by_cases hlt : i < ds.length
    · obtain ⟨go, yld⟩ := wgo hlt
      have it5 := TT.item Y yp yw yK yc i [] s5 σ5 H5 (fun _ _ => False) I5 (fpY fr5) st5 go
      rw [yA] at it5
      refine thn it5 fun r s6 ⟨u, hr, h6⟩ => ?_
      subst hr
      refine thn h6 fun _ s7 ⟨x, H7, I7, r7, y7, st7, fr7⟩ => ?_
      obtain ⟨g7, keep7, d, ed, i7⟩ := yld x H7 y7
      have I7' := I7.pinned (fpY fr7) (TT.obj _ _ st7)
      have R7 : Rel Y (compG own js G) M5 σ5 H7 := R5.to g7 fun a o e => (R5.mem a o e).stay g7 fun u h => keep7 _ _ h
      have gv := blockY q i acc M5 d ed v5 m5 _ s7 σ5 H7 x u I7' R7 r7 i7
      rw [yp, yw, yA, yx, ye] at gv
      refine thn gv fun _ s8 ⟨σ8, H8, G8, M8, I8, g8, R8, e8, sub8, tests⟩ => ?_
      subst e8
      have back : ∀ {σ' : St} {H' : Hp} {s' : Shared}, Inv Y ([] ++ pinsAt fp s7.heap) σ' H' s' → tn (i + 1) s'.heap ∧ ∀ b ∈ fp, H' b = none := fun {σ' H' s'} I' => by
        refine ⟨TT.keep _ _ _ st7 fun b hb o e => (I'.pin (b, o) (List.mem_append_right _ (List.mem_append_right _ (mem_pinsAt hb e)))).1, fun b hb => ?_⟩
        obtain ⟨o, e, _⟩ := TT.obj _ _ st7 b hb
        exact (I'.pin (b, o) (List.mem_append_right _ (List.mem_append_right _ (mem_pinsAt hb e)))).2.1
      have tr := tvs_run tests I8 R8
      rw [yp, yw, yA, yx, ye] at tr
      refine thn tr fun ok s9 ⟨H9, M9, I9, g9, R9, e9, elt8⟩ => ?_
      subst e9
      cases ok with
      | false =>
        rw [if_neg (by decide)]
        rw [if_neg (by decide)] at elt8
        obtain ⟨t1, t2⟩ := back I9
        exact ⟨ds.length - (i + 1), by omega, i + 1, σ8, H9, acc, _, I9.unpinned, ((g5.trans g7).trans g8).trans g9, R9.sub sub8, m5, elt8, t1, t2, hlt, rfl⟩
      | true =>
        rw [if_pos rfl]
        rw [if_pos rfl] at elt8
        have ev := elt8 _ s9 σ8 H9 I9 R9
        rw [yp, yw, yA, yx, ye] at ev
        refine thn ev fun u9 s10 ⟨v10, H10, o10, M10, I10, r10, g10, i10, R10, e10, ez, eo⟩ => ?_
        obtain ⟨xs, hx, hxi⟩ := R10.mem q _ e10
        have hlen := hxi.len
        have ap := mt_append (X := Y) _ s10 σ8 H10 (.ref q) [v10] (.ref q) [u9] (fun _ H' => H' = upd H10 q (.lst (xs ++ [v10]))) I10 rfl (.cons r10 .nil) ⟨q, xs, v10, rfl, rfl, hx, by omega, rfl⟩
        rw [yp, yw, yA, yx] at ap
        refine thn ap fun _ s11 ⟨_, H11, I11, _, e11⟩ => ?_
        subst e11
        obtain ⟨t1, t2⟩ := back I11
        have nt : ∀ ys, H10 q ≠ some (.tup ys) := fun ys z => by rw [hx] at z; cases z
        have ga : Grow H10 (upd H10 q (.lst (xs ++ [v10]))) := grow_upd nt
        have mm := R10.mem.put (p := q) (o := .lst (xs ++ [v10])) (u := .lst (acc ++ [o10])) nt ⟨_, upd_same, (hxi.grow ga).app (isl_cons.mpr ⟨v10, [], rfl, Is.grow ga _ _ i10, isl_nil.mpr rfl⟩)⟩
        exact ⟨ds.length - (i + 1), by omega, i + 1, σ8, _, acc ++ [o10], _, I11.unpinned, ((((g5.trans g7).trans g8).trans g9).trans g10).trans ga, (R10.to ga mm).sub sub8, mset_same, eo, t1, t2, hlt, rfl⟩
    · have ei : i = ds.length := by omega
      subst ei
      have dn := TT.done Y yp yw yK yc ds.length [] s5 σ5 H5 (fun _ _ => False) I5 (fpY fr5) st5 (wstop rfl)
      rw [yA] at dn
      refine thn dn fun r s6 ⟨hr, I6⟩ => ?_
      subst hr
      obtain ⟨mm, hmm, _⟩ := I6.loc
      rw [ye] at hmm
      have I6' : Inv (compCx X N scope cl C s3 H3 fp) [] σ5 H5 s6 := by rw [hY]; exact I6
      have IX : Inv X pins σ H5 s6 := Inv.unblock I3 f3 I6' hC (Heap.SameBut.refl C s6.heap)
      have hCl : Y.env.locals = C := by rw [ye]; rfl
      have freeC : H5 C = none := by rw [← hCl]; exact I6.free
      have CneL : C ≠ X.env.locals := by rw [hC]; exact Nat.ne_of_gt I3.lt
      have CnF : C ∉ X.fs := I3.nofs (by rw [hC]; exact Nat.le_refl _)
      obtain ⟨oC, esC, epC, hoC, hdC, hrC⟩ := id hmm
      have hoC : s6.heap.get? C = some oC := hoC
      have IXp : Inv X (pins ++ [(C, oC)]) σ H5 s6 := IX.pins_of fun z hz => by
        rcases List.mem_append.mp hz with hz | hz
        · exact IX.pin z (List.mem_append_right _ hz)
        · rw [List.mem_singleton.mp hz]
          exact ⟨hoC, freeC, CneL, CnF, fun v e => by rw [hdC] at e; cases e⟩
      have hl : jj < σ.length := by rw [IX.len]; exact (List.getElem?_eq_some_iff.mp hj).1
      refine wpAny_assign_Name (store_ok IXp hN hj hy (v := .ref q) rfl (fun s7 I7 => ?_) hyf)
      have pC := I7.pin (C, oC) (List.mem_append_right _ (List.mem_append_right _ (List.mem_singleton.mpr rfl)))
      refine ⟨mm, ⟨oC, esC, epC, pC.1, hdC, hrC⟩, fun h' hsb => ?_⟩
      have pinsne : ∀ p ∈ X.pn ++ pins, p.1 ≠ C := fun z hz e => by
        have := (I3.pin z hz).1
        exact absurd (Heap.lt_size this) (by rw [e, hC]; exact Nat.lt_irrefl _)
      have cellne : ∀ x c, X.env.cells.lookup x = some c → c ≠ C := fun x c e z => by
        obtain ⟨v, qc⟩ := I3.cell x c e
        exact absurd qc.lt (by rw [z, hC]; exact Nat.lt_irrefl _)
      have I8 : Inv X pins (σ.set jj (some (.ref q))) H5 { s7 with heap := h' } := (I7.unpinned).turned (t' := s7.toks) (it := C) (fun b o hb e => (hsb.2 b hb).trans e) freeC CneL (.inr (by rw [hC]; exact I3.sz)) cellne pinsne
      have RX : Rel X G M5 σ H5 := R3.to g5 (by rw [← yK]; exact R5.mem)
      exact ⟨_, H5, _, M5, I8, (g2.trans gq).trans g5, RX.set hl (is_ref.mpr rfl), fin q acc M5 v5 m5⟩
  have fin0 := codeAny_compStart_list (R := compPost (model X.prog X.w) X.A X.xe (some (assign (.Name y py) X.env)) (fun _ s' => SPD X pins H E .next s') (.ref q) C) (loop _ rfl) (TT.self _ 0 _ _ _ stc (loop _ rfl))
  rw [hC] at fin0
  exact fin0
theorem tvs_mono {Y : Cx} {G : Ga} {M : MH} {cs : List Expr} {Q Q' : Bool → MH → Prop} (h : TVs Y G M cs Q) (k : ∀ k M', Q k M' → Q' k M') : TVs Y G M cs Q' := by
  unfold TVs at h ⊢
  split at h
  · exact k _ _ h
  · exact fun pins s σ H I R => thn (h pins s σ H I R) fun b s' ⟨H', M', I', g, R', q⟩ => ⟨H', M', I', g, R', k _ _ q⟩
  · exact h
theorem gv_mono {Y : Cx} {G : Ga} {M : MH} {tg : Expr} {d : D} {Q Q' : Ga → MH → Prop} (h : GV Y G M tg d Q) (k : ∀ G' M', Q G' M' → Q' G' M') : GV Y G M tg d Q' :=
  fun pins s σ H v u I R r i => thn (h pins s σ H v u I R r i) fun _ s2 ⟨σ2, H2, G2, M2, I2, g2, R2, q⟩ => ⟨σ2, H2, G2, M2, I2, g2, R2, k _ _ q⟩
/-- the pure comprehension's step by step -/
theorem pure_block {M1 : MH} {ds : List D} {ifs : List Expr} {f : D → D} {pr : D → Bool} (hz : ds.length ≤ sizeLine)
    (block : ∀ Y : Cx, (∃ C s H fp, Y = compCx X N scope cl C s H fp) → ∀ M', Ext M1 M' → ∀ d ∈ ds, GV Y (compG own js G) M' tg d fun G3 M3 => M3 = M' ∧ Sub (compG own js G) G3 ∧ TVs Y G3 M' ifs (fun k M4 => M4 = M' ∧ k = pr d) ∧ (pr d = true → EV Y G3 M' elt fun o M4 => M4 = M' ∧ o = f d)) :
    ∀ Y : Cx, (∃ C s H fp, Y = compCx X N scope cl C s H fp) → ∀ q i acc M' d, ds[i]? = some d → (M1 q = none ∧ M' = mset M1 q (.lst acc) ∧ acc = ((ds.take i).filter pr).map f) → M' q = some (.lst acc) → GV Y (compG own js G) M' tg d fun G3 M3 => M3 = M' ∧ Sub (compG own js G) G3 ∧ TVs Y G3 M' ifs fun k M4 => M4 = M' ∧ if k = true then EV Y G3 M' elt fun o M5 => M5 q = some (.lst acc) ∧ acc.length < sizeLine ∧ (M1 q = none ∧ mset M5 q (.lst (acc ++ [o])) = mset M1 q (.lst (acc ++ [o])) ∧ acc ++ [o] = ((ds.take (i + 1)).filter pr).map f) else (M1 q = none ∧ M' = mset M1 q (.lst acc) ∧ acc = ((ds.take (i + 1)).filter pr).map f) := by
  intro Y hY q i acc M' d hd ⟨hq, hM, hacc⟩ mq
  have hi : i < ds.length := (List.getElem?_eq_some_iff.mp hd).1
  have tk : (ds.take (i + 1)).filter pr = (ds.take i).filter pr ++ (if pr d then [d] else []) := take_succ_filter pr ds i d hd
  have hl : acc.length ≤ i := by
    rw [hacc, List.length_map]
    exact Nat.le_trans (List.length_filter_le _ _) (by rw [List.length_take]; omega)
  refine gv_mono (block Y hY M' (by rw [hM]; exact ext_new hq) d (List.mem_of_getElem? hd)) fun G3 M3 ⟨e1, e2, e3, e4⟩ => ⟨e1, e2, tvs_mono e3 fun k M4 ⟨e5, e6⟩ => ⟨e5, ?_⟩⟩
  subst e6
  cases hp : pr d with
  | true =>
    rw [if_pos rfl]
    refine (e4 hp).mono fun o M5 ⟨e7, e8⟩ => ?_
    subst e7; subst e8
    refine ⟨mq, by omega, hq, by rw [hM, mset_mset], ?_⟩
    rw [tk, hp, if_pos rfl, List.map_append, ← hacc]; rfl
  | false =>
    rw [if_neg (by decide)]
    refine ⟨hq, hM, ?_⟩
    rw [tk, hp, if_neg (by decide), List.append_nil]; exact hacc
theorem ex_comp_tup {E : EndsD} {ifs : List Expr} {y : Str} {py spos : Pos} (jj : Nat) (T : CompOk X own js N scope cl) (hxe : X.xe = fun _ _ => False) (hc : X.calm = true) (hN : X.N.Nodup) (hj : X.N[jj]? = some y) (hy : Loc X.env.scope y) (hyf : X.fn y = true ∨ X.env.scope.names.lookup y = some .local)
    (hsw : swapsWith (.ListComp elt [⟨tg, iter, ifs, 0⟩] scope pos) (some (.Name y py)) spos.line X.env = pure true) (f : D → D) (pr : D → Bool)
    (h : EV X G M iter fun d M1 => ∃ ds : List D, d = .tup ds ∧ ds.length ≤ sizeLine ∧
      (∀ Y : Cx, (∃ C s H fp, Y = compCx X N scope cl C s H fp) → ∀ M', Ext M1 M' → ∀ d ∈ ds, GV Y (compG own js G) M' tg d fun G3 M3 => M3 = M' ∧ Sub (compG own js G) G3 ∧ TVs Y G3 M' ifs (fun k M4 => M4 = M' ∧ k = pr d) ∧ (pr d = true → EV Y G3 M' elt fun o M4 => M4 = M' ∧ o = f d)) ∧
      ∀ q, M1 q = none → E.nx (G.set jj (some (.ref q))) (mset M1 q (.lst ((ds.filter pr).map f))))
    (hs : ∀ x, foldedSetIterable iter X.env x = pure x) : EX X G M (.Assign [.Name y py] (.ListComp elt [⟨tg, iter, ifs, 0⟩] scope pos) spos) E := by
  refine ex_compI jj T hxe hc (pi_tup (pe_D (G := G))) hN hj hy hyf hsw (fun σ H kf R => ?_) hs
  refine ⟨M, _, R, h, fun v H' d M' kf' g i R' q => ?_⟩
  obtain ⟨ds, e, hz, block, fin⟩ := q
  subst e
  rw [is_tup] at i
  obtain ⟨l, xs, rfl, hx, hxi⟩ := i
  have hlen := hxi.len
  refine ⟨l, rfl, ⟨xs, SqT.of hx⟩, g, M', ds, fun q i acc M2 => M' q = none ∧ M2 = mset M' q (.lst acc) ∧ acc = ((ds.take i).filter pr).map f, R', fun q i acc M2 H2 g2 m2 v2 => ?_, fun q hq => ⟨hq, rfl, by simp⟩, pure_block hz block, fun q acc M2 ⟨h1, h2, h3⟩ _ => by rw [h2, h3, List.take_length]; exact fin q h1⟩
  have hx2 : SqT X.K H2 l xs := SqT.of (g2 _ _ hx)
  refine ⟨fun e => ⟨xs, hx2, by omega⟩, fun hlt => ⟨⟨xs, xs[i]'(by omega), hx2, by simp⟩, fun x H3 y => ?_⟩⟩
  obtain ⟨e, y⟩ := y
  subst e
  have e1 := y xs hx2
  obtain ⟨d, e2, i2⟩ := (hxi.grow g2).get' e1
  exact ⟨Grow.refl _, fun _ _ z => z, d, e2, i2⟩
end
end D3

set_option Elab.async false
set_option linter.all false
set_option maxRecDepth 100000
set_option maxHeartbeats 4000000
/-! lists compared; tuples put together, an empty one too -/
namespace D3
open PySem PySem.Spec PyProof.Rows L2
section
variable {X : Cx} {G : Ga} {M : MH} {a b e : Expr} {pos : Pos} {Q : DK} {Qb : Bool → MH → Prop} {pins : List (Addr × Obj)} {σ : St} {H : Hp} {s : Shared}
theorem reads_lst (I : L2.Inv X pins σ H s) (m : MemOk X.K M H) {l : Addr} {ds : List D} (h : M l = some (.lst ds)) (hi : immL ds = true) : ∃ as, Reads s.heap (.ref l) (.list (pdL ds)) as := by
  obtain ⟨xs, e1, e2⟩ := m l _ h
  obtain ⟨z, its, n, rv, hl, eo⟩ := I.lstM e1
  obtain ⟨as, q⟩ := readsAll_of I ds xs its e2 rv hi
  exact ⟨_, .list eo rfl rfl (by simpa using q)⟩
/-- == by what the two are, lists too -/
def EqX (da db : D) (M : MH) (Qb : Bool → MH → Prop) : Prop := match da, db with
  | .ref l, .ref k => ∃ xs ys, M l = some (.lst xs) ∧ M k = some (.lst ys) ∧ immL xs = true ∧ immL ys = true ∧ PyData.depthAll (pdL xs) ≤ 59 ∧ Qb (PyData.eqvAll (pdL xs) (pdL ys)) M
  | _, _ => EqL da db M Qb
theorem eqx_l {l k : Addr} {xs ys : List D} (h1 : M l = some (.lst xs)) (h2 : M k = some (.lst ys)) (i1 : immL xs = true) (i2 : immL ys = true) (hd : PyData.depthAll (pdL xs) ≤ 59) (q : Qb (PyData.eqvAll (pdL xs) (pdL ys)) M) : EqX (.ref l) (.ref k) M Qb := ⟨xs, ys, h1, h2, i1, i2, hd, q⟩
theorem eqX_run {neg : Bool} {op : CmpOp} (ho : op = if neg then .NotEq else .Eq) (hu : X.A.units + 64 < cLine) {da db : D} {x y : V} {v u : Value} (I : L2.Inv X pins σ H s) (R : Rel X G M σ H) (i1 : Is H da x) (i2 : Is H db y) (r1 : RelV x v) (r2 : RelV y u)
    (h : EqX da db M fun k M' => Q (.bl (if neg then !k else k)) M') : wpAny (model X.prog X.w) X.A (compareOp op v u) (EPD X pins σ G H Q) X.xe s := by
  unfold EqX at h
  split at h
  · rename_i l k
    obtain ⟨xs, ys, h1, h2, m1, m2, hd, q⟩ := h
    rw [is_ref] at i1 i2; subst i1; subst i2
    cases r1; cases r2
    obtain ⟨as, ra⟩ := reads_lst I R.mem h1 m1
    obtain ⟨bs, rb⟩ := reads_lst I R.mem h2 m2
    have c1 : (PyData.list (pdL xs)).canLay0 = true := by simp only [PyData.canLay0]; exact canLayL_imm xs m1
    have c2 : (PyData.list (pdL ys)).canLay0 = true := by simp only [PyData.canLay0]; exact canLayL_imm ys m2
    have hdp : (PyData.list (pdL xs)).depth ≤ 60 := by simp only [PyData.depth]; omega
    have hmin : min (PyData.list (pdL xs)).depth (PyData.list (pdL ys)).depth ≤ (PyData.list (pdL xs)).depth := Nat.min_le_left _ _
    have ee : PyData.eqv (.list (pdL xs)) (.list (pdL ys)) = PyData.eqvAll (pdL xs) (pdL ys) := by simp only [PyData.eqv]
    subst ho
    cases neg with
    | false => exact PySem.SeqAt.compareEq_reads ra rb c1 c2 (by omega) ⟨.bl _, H, .bl _, M, I, rfl, Grow.refl _, is_bl.mpr rfl, R, by rw [ee]; exact q⟩
    | true => exact PySem.SeqAt.compareNe_reads ra rb c1 c2 (by omega) ⟨.bl _, H, .bl _, M, I, rfl, Grow.refl _, is_bl.mpr rfl, R, by rw [ee]; exact q⟩
  · exact eqL_run ho hu I R i1 i2 r1 r2 h
theorem lx_eq (hu : X.A.units + 64 < cLine) (h : EV X G M a fun da Ma => EV X G Ma b fun db Mb => EqX da db Mb fun k M' => Q (.bl k) M') : EV X G M (.Compare a [.Eq] [b] pos) Q := by
  intro pins s σ H I R
  refine wpAny_Compare1 ?_ (nomark _)
  refine thn (h pins s σ H I R) fun v s1 ⟨x, H1, da, Ma, I1, r1, g1, i1, R1, q1⟩ => ?_
  refine thn (q1 pins s1 σ H1 I1 R1) fun u s2 ⟨y, H2, db, Mb, I2, r2, g2, i2, R2, q⟩ => ?_
  exact thn (eqX_run (neg := false) rfl hu I2 R2 (Is.grow g2 _ _ i1) i2 r1 r2 q) fun _ _ h => h.grow (g1.trans g2)
theorem EqX.to {da db : D} (h : EqX da db M Qb) {Qc : Bool → MH → Prop} (k : ∀ b M', Qb b M' → Qc b M') : EqX da db M Qc := by
  unfold EqX at h ⊢
  split at h
  · obtain ⟨xs, ys, h1, h2, m1, m2, hd, q⟩ := h
    exact ⟨xs, ys, h1, h2, m1, m2, hd, k _ _ q⟩
  · exact ⟨h.1, k _ _ h.2⟩
theorem lxt_eq (hu : X.A.units + 64 < cLine) (h : EV X G M a fun da Ma => EV X G Ma b fun db Mb => EqX da db Mb Qb) : TV X G M (.Compare a [.Eq] [b] pos) Qb := by
  refine tv_cval (nomark _) fun pins s σ H I R => ?_
  refine thn (h pins s σ H I R) fun v s1 ⟨x, H1, da, Ma, I1, r1, g1, i1, R1, q1⟩ => ?_
  refine thn (q1 pins s1 σ H1 I1 R1) fun u s2 ⟨y, H2, db, Mb, I2, r2, g2, i2, R2, q⟩ => ?_
  exact thn (eqX_run (neg := false) rfl hu I2 R2 (Is.grow g2 _ _ i1) i2 r1 r2 (Q := fun d M' => ∃ k, d = .bl k ∧ Qb k M') (q.to fun b M' q => ⟨_, rfl, q⟩)) fun _ _ h => h.grow (g1.trans g2)
/-! () + t -/
end
end D3

set_option Elab.async false
set_option linter.all false
set_option maxRecDepth 100000
set_option maxHeartbeats 4000000
namespace KA
open PySem PySem.Spec PyProof.Rows L2 D3 K01
/-! names that a point lacks -/
def lack (kvs : List (Str × D)) (ts : List (Str × Int)) : List Str := (ts.map (·.1)).filter fun s => (lkD kvs s).isNone
theorem lack_nil {kvs : List (Str × D)} : ∀ {ts : List (Str × Int)}, lack kvs ts = [] → ∀ t ∈ ts, (lkD kvs t.1).isSome = true
  | [], _, t, h => by cases h
  | u :: r, e, t, h => by
    unfold lack at e
    rw [List.map_cons, List.filter_cons] at e
    split at e
    · cases e
    · rename_i hu
      rcases List.mem_cons.mp h with rfl | h
      · cases hl : lkD kvs t.1 with
        | none => rw [hl] at hu; exact absurd rfl hu
        | some _ => rfl
      · exact lack_nil (ts := r) e t h
theorem lack_at {kvs : List (Str × D)} {ts : List (Str × Int)} {i : Nat} {t : Str × Int} (ht : ts[i]? = some t) (h0 : lack kvs (ts.take i) = []) (hl : lkD kvs t.1 = none) : ∃ r, lack kvs ts = t.1 :: r := by
  have e : ts = ts.take i ++ t :: ts.drop (i + 1) := by
    conv => lhs; rw [← List.take_append_drop i ts]
    congr 1
    obtain ⟨hi, he⟩ := List.getElem?_eq_some_iff.mp ht
    rw [List.drop_eq_getElem_cons hi, he]
  refine ⟨lack kvs (ts.drop (i + 1)), ?_⟩
  unfold lack at h0 ⊢
  conv => lhs; rw [e]
  rw [List.map_append, List.filter_append, h0, List.nil_append, List.map_cons, List.filter_cons, if_pos (by rw [hl]; rfl)]
theorem lack_snoc {kvs : List (Str × D)} {ts : List (Str × Int)} {i : Nat} {t : Str × Int} (ht : ts[i]? = some t) (h0 : lack kvs (ts.take i) = []) (hl : (lkD kvs t.1).isSome = true) : lack kvs (ts.take (i + 1)) = [] := by
  have htk : ts.take (i + 1) = ts.take i ++ [t] := by rw [List.take_add_one, ht]; rfl
  unfold lack at h0 ⊢
  rw [htk, List.map_append, List.filter_append, h0, List.nil_append, List.map_cons, List.filter_cons, if_neg (by rw [Option.isNone_iff_eq_none]; intro z; rw [z] at hl; cases hl)]
  rfl
/-- the point's values are fractions, the terms few and short -/
def Fits (kvs : List (Str × D)) (ts : List (Str × Int)) : Prop := ts.length ≤ 3 ∧ (∀ t ∈ ts, B 64 t.2) ∧ ∀ s d, lkD kvs s = some d → ∃ x y, Frn d x y
theorem Fits.all {kvs : List (Str × D)} {ts : List (Str × Int)} (h : Fits kvs ts) (e : lack kvs ts = []) : AllHas kvs ts := ⟨h.1, fun t ht => by
  have := lack_nil e t ht
  cases hl : lkD kvs t.1 with
  | none => rw [hl] at this; cases this
  | some d => obtain ⟨x, y, hf⟩ := h.2.2 _ _ hl; exact ⟨⟨d, x, y, hl, hf⟩, h.2.1 t ht⟩⟩
abbrev noNm (n : Str) : List (Str × D) := [("name", .str n)]
/-- refused where a name is lacking -/
def Ref (Cn : Addr) (kvs : List (Str × D)) (ts : List (Str × Int)) (M : MH) (R : XQ) : Prop := ∀ n r, lack kvs ts = n :: r → ∀ dx, M dx = none → R Cn (noNm n) (mset M dx (.att (noNm n)))
def spMustX (Cn : Addr) : SpX := fun ds M Q R => ∃ ts q kvs, ds = [trm ts, .ref q] ∧ M q = some (.dic kvs) ∧ Fits kvs ts ∧ (lack kvs ts = [] → Q .non M) ∧ Ref Cn kvs ts M R
def spAddedX (Cn : Addr) : SpX := fun ds M Q R => ∃ ts q kvs, ds = [trm ts, .ref q] ∧ M q = some (.dic kvs) ∧ Fits kvs ts ∧ (lack kvs ts = [] → Q (fr (addUp kvs ts 0 1).1 (addUp kvs ts 0 1).2) M) ∧ Ref Cn kvs ts M R
def spWorthX (Cn : Addr) : SpX := fun ds M Q R => ∃ ts w b q kvs, ds = [.tup [trm ts, .int w, .int b], .ref q] ∧ M q = some (.dic kvs) ∧ Fits kvs ts ∧ B 64 w ∧ 0 < b ∧ B 64 b ∧ (lack kvs ts = [] → ∀ d, Q d M) ∧ Ref Cn kvs ts M R
def spIsSoX (Cn : Addr) : SpX := fun ds M Q R => ∃ k ts b q kvs, ds = [rowD k ts b, .ref q] ∧ M q = some (.dic kvs) ∧ Fits kvs ts ∧ B 600 b ∧ (lack kvs ts = [] → ∀ d, Q d M) ∧ Ref Cn kvs ts M R
/-- memory kept, errors' fields aside -/
def ExtA (M M' : MH) : Prop := ∀ b o, M b = some o → (∀ fs, o ≠ .att fs) → M' b = some o
def spCaught (Cn : Addr) : SpD := fun ds M Q => ∃ way tsS w b k tsR bd q kvs, ds = [.int way, .tup [trm tsS, .int w, .int b], rowD k tsR bd, .ref q] ∧ M q = some (.dic kvs) ∧ Fits kvs tsS ∧ Fits kvs tsR ∧ B 64 w ∧ 0 < b ∧ B 64 b ∧ B 600 bd ∧ (way = 0 ∨ way = 1) ∧
  (lack kvs (if way = 0 then tsS else tsR) = [] → Q .non M) ∧ ∀ n r, lack kvs (if way = 0 then tsS else tsR) = n :: r → ∀ a dx M', ExtA M M' → M' a = some (.exc Cn (some dx) false) → M' dx = some (.att (noNm n)) → dx ≠ a → Q (.ref a) M'
def fst1 : D → D
  | .tup (x :: _) => x
  | d => d
def lkP (kvs : List (Str × D)) : D → Bool
  | .tup (.str s :: _) => (lkD kvs s).isNone
  | _ => false
theorem lack_map (kvs : List (Str × D)) : ∀ ts : List (Str × Int), ((ts.map tD).filter (lkP kvs)).map fst1 = (lack kvs ts).map D.str
  | [] => rfl
  | t :: r => by
    have ih := lack_map kvs r
    unfold lack at ih ⊢
    rw [List.map_cons, List.map_cons, List.filter_cons, List.filter_cons]
    have e : lkP kvs (tD t) = (lkD kvs t.1).isNone := rfl
    rw [e]
    cases (lkD kvs t.1).isNone with
    | true => rw [if_pos rfl, if_pos rfl, List.map_cons, List.map_cons, ih]; rfl
    | false => rw [if_neg (by decide), if_neg (by decide)]; exact ih
theorem lack_sub (kvs : List (Str × D)) (ts : List (Str × Int)) : ∀ s ∈ lack kvs ts, s ∈ ts.map (·.1) := fun s h => (List.mem_filter.mp h).1
theorem imm_strs : ∀ {ss : List Str}, (∀ s ∈ ss, PyData.strOk s = true) → immL (ss.map D.str) = true
  | [], _ => rfl
  | s :: r, h => by
    rw [List.map_cons]
    simp only [immL, imm, h s (List.mem_cons_self ..), Bool.true_and]
    exact imm_strs fun s hs => h s (List.mem_cons_of_mem _ hs)
theorem dep_strs : ∀ (ss : List Str), PyData.depthAll (pdL (ss.map D.str)) ≤ 1
  | [] => by simp [pdL, PyData.depthAll]
  | s :: r => by
    have := dep_strs r
    rw [List.map_cons]
    simp only [pdL, pd, PyData.depthAll, PyData.depth]
    omega
theorem eq_nil_strs (ss : List Str) : PyData.eqvAll (pdL (ss.map D.str)) (pdL []) = decide (ss = []) := by
  cases ss with
  | nil => simp [pdL, PyData.eqvAll]
  | cons s r => simp [pdL, PyData.eqvAll]
theorem str_letter {s : Str} (h : Letter s) : PyData.strOk s = true := by
  obtain ⟨c, h1, h2, rfl⟩ := h
  unfold PyData.strOk
  simp
  omega
def spGood5 (Cn : Addr) : SpD := fun ds M Q => ∃ e ts q kvs, ds = [e, trm ts, .ref q] ∧ M q = some (.dic kvs) ∧ ts.length ≤ 3 ∧ (∀ t ∈ ts, PyData.strOk t.1 = true) ∧
  ((e = .non ∧ lack kvs ts = []) ∨ ∃ a dx n r, e = .ref a ∧ M a = some (.exc Cn (some dx) false) ∧ M dx = some (.att (noNm n)) ∧ dx ≠ a ∧ lack kvs ts = n :: r) ∧ ∀ M', Ext M M' → Q (.bl true) M'
theorem kit_self {K : PySem.W.Frag} {C : Addr} : PySem.W.kitOne K (.ref C) (.ref C) = some true := by
  unfold PySem.W.kitOne
  rw [if_pos (by simp)]
theorem bootVE : bootBuiltins "ValueError" = some (.type "ValueError") := by decide +kernel
def spMade5 : SpD := fun ds M Q => ∃ n i : Int, ds = [.int n, .tup [.int 1, .int i, .int 2]] ∧ ∀ M', Q (.bl true) M'
theorem eq_same {d : D} {M : MH} {Qb : Bool → MH → Prop} (hi : imm d = true) (hd : (pd d).depth ≤ 60) (hn : ∃ xs, d = .tup xs) (q : Qb true M) : EqL d d M Qb := by
  obtain ⟨xs, rfl⟩ := hn
  refine ⟨⟨hi, hi, hd⟩, ?_⟩
  have : eqB (.tup xs) (.tup xs) = true := PySem.SeqAt.eqv_refl (pd (.tup xs)) (canLay_imm _ hi)
  rw [this]
  exact q
/-! what is read of an error class in the module as it stands -/
structure ClsT (K : PySem.W.Frag) (x qual : Str) (st : Stmt) (C P0 : Addr) : Prop where
  ns : PySem.W.nsIn K mainGlobals x = some (some (.ref C))
  er : X1.Err K C P0
  kp : PySem.W.keepIn K (.ref C) = true
  fn : ∃ fI fd oI, PySem.W.findIn K (.ref C) "__init__" = some (some (.ref fI)) ∧ Fun K "__init__" qual st fI fd ∧ K.lookup fI = some oI ∧ oI.cls = .type "function"
  sa : PySem.W.findIn K (.ref C) "__setattr__" = some (some (.builtin "object.__setattr__"))
  ga : PySem.W.findIn K (.ref C) "__getattribute__" = some (some (.builtin "BaseException.__getattribute__"))
  gh : PySem.W.findIn K (.ref C) "__getattr__" = some none
theorem ClsT.mk' {K : PySem.W.Frag} {x qual : Str} {st : Stmt} {C P0 fI N : Addr} {nm q : Str} {bs : List Value} {sn : List Str} {sub : List Value} {ab : Bool} {col : Option Bool} {dd od an : Option Addr} {k0 k1 k2 k3 k5 : Option Value} {sl : Array (Option Value)} {oc kV dc pm cd ct : Value}
    (a : PySem.W.nsIn K mainGlobals x = some (some (.ref C))) (l : K.lookup C = some (excClassObj nm q C N bs (.ref P0 :: X1.VE) true sn sub ab col dd k0 k1 k2 k3 k5 "ValueError.__new__")) (k : PySem.W.keepIn K (.ref C) = true) (i : PySem.W.findIn K (.ref C) "__init__" = some (some (.ref fI)))
    (fl : K.lookup fI = some ⟨oc, od, .func (PySem.W.fnOf "__init__" qual (defArgs st) (defBody st) (defScope st) .none kV dc pm an cd ct), sl⟩) (fc : PySem.W.codeIn K cd qual = true) (fk : PySem.W.keepIn K (.ref fI) = true) (fo : oc = .type "function")
    (sa : PySem.W.findIn K (.ref C) "__setattr__" = some (some (.builtin "object.__setattr__"))) (ga : PySem.W.findIn K (.ref C) "__getattribute__" = some (some (.builtin "BaseException.__getattribute__"))) (gh : PySem.W.findIn K (.ref C) "__getattr__" = some none) : ClsT K x qual st C P0 :=
  ⟨a, ⟨⟨_, _, _, _, _, _, _, _, _, _, _, _, _, _, l⟩⟩, k, ⟨fI, _, _, i, fun_mk fl fc fk, fl, fo⟩, sa, ga, gh⟩
theorem ClsT.fld {K : PySem.W.Frag} {x qual : Str} {st : Stmt} {C P0 : Addr} (c : ClsT K x qual st C P0) {f : Str} (h : PySem.W.findIn K (.ref C) f = some none) : ErrF K C P0 f := ⟨c.er, c.sa, c.ga, c.gh, h⟩
theorem ClsT.mkr {P : Program} {w : World} {K : PySem.W.Frag} {mg : Str → Option Value} {h base : Heap} {x qual : Str} {st : Stmt} {C P0 : Addr} {fs ps : List Str} (c : ClsT K x qual st C P0) (X : K.In h) (G : h.Ns mainGlobals mg) (ok : ∀ fI fd, Fun K "__init__" qual st fI fd → FnOk P w K mg base CX0 1 fI fd ps (liftSp K (spIni C fs)))
    (b : ∀ fI fd, Fun K "__init__" qual st fI fd → Binds K fd ps []) : Mkr P w K mg base 1 x C P0 fs := by
  obtain ⟨fI, fd, oI, h1, F, h2, h3⟩ := c.fn
  exact ⟨⟨fI, fd, ps, oI, ok fI fd F, b fI fd F, h1, h2, h3⟩, PySem.W.mg_of X G c.ns, c.kp, c.er⟩
theorem cls_some {K : PySem.W.Frag} {C : Addr} (e : X1.ErrG K C) : (PySem.W.clsIn K C).isSome = true := by
  obtain ⟨nm, q, N, bs, bm, sn, sub, ab, col, dd, k0, k1, k2, k3, k5, nid, hC, _⟩ := e.ex
  unfold PySem.W.clsIn
  rw [hC]
  rfl
theorem kit_ty {K : PySem.W.Frag} {C : Addr} (h : PySem.W.subIn K (.ref C) (.type "ValueError") = some true) : PySem.W.kitOne K (.ref C) (.type "ValueError") = some true := by
  unfold PySem.W.kitOne
  rw [if_neg (fun z => by cases (beq_iff_eq.mp z))]
  show (if PySem.W.kitMeta "ValueError" = true then PySem.W.subIn K (.ref C) (.type "ValueError") else none) = _
  rw [if_pos (by decide +kernel)]
  exact h
theorem kit_no {K : PySem.W.Frag} {C c : Addr} (n : C ≠ c) (e : X1.ErrG K c) (t : PySem.W.typeIn K (.ref c) = some (.type "type")) (h : PySem.W.subIn K (.ref C) (.ref c) = some false) : PySem.W.kitOne K (.ref C) (.ref c) = some false := by
  unfold PySem.W.kitOne
  rw [if_neg (fun z => n (Value.ref.inj (beq_iff_eq.mp z)))]
  show (if ((PySem.W.clsIn K c).isSome && PySem.W.typeIn K (.ref c) == some (.type "type")) = true then PySem.W.subIn K (.ref C) (.ref c) else none) = _
  rw [if_pos (by rw [cls_some e, t]; rfl)]
  exact h
theorem kit_four {K : PySem.W.Frag} {C a b c d : Addr} (ha : PySem.W.kitOne K (.ref C) (.ref a) = some false) (hb : PySem.W.kitOne K (.ref C) (.ref b) = some false) (hc : PySem.W.kitOne K (.ref C) (.ref c) = some false) (hd : PySem.W.kitOne K (.ref C) (.ref d) = some false) :
    PySem.W.kitAny K (.ref C) [.ref a, .ref b, .ref c, .ref d] = some false := by
  simp only [PySem.W.kitAny, ha, hb, hc, hd]
theorem errG_of {K : PySem.W.Frag} {C N : Addr} {nm q : Str} {bs bm : List Value} {sn : List Str} {sub : List Value} {ab : Bool} {col : Option Bool} {dd : Option Addr} {k0 k1 k2 k3 k5 : Option Value} {nid : String} (l : K.lookup C = some (excClassObj nm q C N bs bm true sn sub ab col dd k0 k1 k2 k3 k5 nid)) (h : bm.contains (.type "BaseException") = true) : X1.ErrG K C :=
  ⟨_, _, _, _, _, _, _, _, _, _, _, _, _, _, _, _, l, h⟩
theorem per_mk {K : PySem.W.Frag} {p0 N : Addr} {nm q : Str} {bs : List Value} {sn : List Str} {sub : List Value} {ab : Bool} {col : Option Bool} {dd od : Option Addr} {k0 k1 k2 k3 k5 : Option Value} {es : Array DictEntry} {ep : Nat} {oc : Value} {sl : Array (Option Value)} (l : K.lookup p0 = some (excClassObj nm q p0 N bs X1.VE true sn sub ab col dd k0 k1 k2 k3 k5 "ValueError.__new__")) (n : K.lookup N = some ⟨oc, od, .dict es ep, sl⟩) (s : StrKeys es) (i : nsFind es "__init__" = none) :
    ∃ nm q N bs sn sub ab col dd k0 k1 k2 k3 k5 es ep oc od sl, K.lookup p0 = some (excClassObj nm q p0 N bs X1.VE true sn sub ab col dd k0 k1 k2 k3 k5 "ValueError.__new__") ∧ K.lookup N = some ⟨oc, od, .dict es ep, sl⟩ ∧ StrKeys es ∧ nsFind es "__init__" = none :=
  ⟨_, _, _, _, _, _, _, _, _, _, _, _, _, _, _, _, _, _, _, l, n, s, i⟩
def isStrK (e : DictEntry) : Bool := match e.key with
  | .str _ _ => true
  | _ => false
theorem strKeys_of {es : Array DictEntry} (h : es.all isStrK = true) : StrKeys es := fun e he => by
  have := Array.all_eq_true_iff_forall_mem.mp h e he
  unfold isStrK at this
  split at this
  · rename_i n t z; exact ⟨n, t, z⟩
  · cases this
end KA

set_option Elab.async false
set_option linter.all false
set_option maxRecDepth 100000
set_option maxHeartbeats 4000000
namespace K05
open PySem PySem.Spec PyProof.Rows L2 D3 K01 KA
def top (i : Nat) : Stmt := PySem.Challenge.pw_notekeep_k05_no_name.main.body.getD i (.Pass ⟨0, 0, 0, 0⟩)
abbrev s_NoName_init : Stmt := inClass (top 2) 0
abbrev N_NoName_init : List Str := ["self", "name"]
abbrev P_NoName_init : List Str := ["self", "name"]
theorem sc_NoName_init : FnScope N_NoName_init P_NoName_init (defScope s_NoName_init) := ⟨rfl, rfl, rfl, by decide +kernel, rfl, by decide +kernel, by decide +kernel⟩
abbrev s_TooGreat_init : Stmt := inClass (top 3) 0
abbrev N_TooGreat_init : List Str := ["self", "number", "most"]
abbrev P_TooGreat_init : List Str := ["self", "number", "most"]
theorem sc_TooGreat_init : FnScope N_TooGreat_init P_TooGreat_init (defScope s_TooGreat_init) := ⟨rfl, rfl, rfl, by decide +kernel, rfl, by decide +kernel, by decide +kernel⟩
abbrev s_NoMeasure_init : Stmt := inClass (top 4) 0
abbrev N_NoMeasure_init : List Str := ["self", "place"]
abbrev P_NoMeasure_init : List Str := ["self", "place"]
theorem sc_NoMeasure_init : FnScope N_NoMeasure_init P_NoMeasure_init (defScope s_NoMeasure_init) := ⟨rfl, rfl, rfl, by decide +kernel, rfl, by decide +kernel, by decide +kernel⟩
abbrev s_NoText_init : Stmt := inClass (top 5) 0
abbrev N_NoText_init : List Str := ["self", "line"]
abbrev P_NoText_init : List Str := ["self", "line"]
theorem sc_NoText_init : FnScope N_NoText_init P_NoText_init (defScope s_NoText_init) := ⟨rfl, rfl, rfl, by decide +kernel, rfl, by decide +kernel, by decide +kernel⟩
abbrev s_NoLoop_init : Stmt := inClass (top 6) 0
abbrev N_NoLoop_init : List Str := ["self", "place"]
abbrev P_NoLoop_init : List Str := ["self", "place"]
theorem sc_NoLoop_init : FnScope N_NoLoop_init P_NoLoop_init (defScope s_NoLoop_init) := ⟨rfl, rfl, rfl, by decide +kernel, rfl, by decide +kernel, by decide +kernel⟩
abbrev s_plus : Stmt := top 10
abbrev N_plus : List Str := ["one", "other", "shared", "left", "top", "divisor"]
abbrev P_plus : List Str := ["one", "other"]
theorem sc_plus : FnScope N_plus P_plus (defScope s_plus) := ⟨rfl, rfl, rfl, by decide +kernel, rfl, by decide +kernel, by decide +kernel⟩
abbrev s_times : Stmt := top 11
abbrev N_times : List Str := ["one", "other", "across", "back"]
abbrev P_times : List Str := ["one", "other"]
theorem sc_times : FnScope N_times P_times (defScope s_times) := ⟨rfl, rfl, rfl, by decide +kernel, rfl, by decide +kernel, by decide +kernel⟩
abbrev s_worth : Stmt := top 12
abbrev N_worth : List Str := ["one", "point", "added", "name", "weight"]
abbrev P_worth : List Str := ["one", "point"]
theorem sc_worth : FnScope N_worth P_worth (defScope s_worth) := ⟨rfl, rfl, rfl, by decide +kernel, rfl, by decide +kernel, by decide +kernel⟩
abbrev s_is_so : Stmt := top 13
abbrev N_is_so : List Str := ["row", "point", "added", "bound"]
abbrev P_is_so : List Str := ["row", "point"]
theorem sc_is_so : FnScope N_is_so P_is_so (defScope s_is_so) := ⟨rfl, rfl, rfl, by decide +kernel, rfl, by decide +kernel, by decide +kernel⟩
abbrev s_added_up : Stmt := top 14
abbrev N_added_up : List Str := ["terms", "point", "top", "bottom", "name", "weight", "value"]
abbrev P_added_up : List Str := ["terms", "point"]
theorem sc_added_up : FnScope N_added_up P_added_up (defScope s_added_up) := ⟨rfl, rfl, rfl, by decide +kernel, rfl, by decide +kernel, by decide +kernel⟩
abbrev s_must_have_names : Stmt := top 15
abbrev N_must_have_names : List Str := ["terms", "point", "term"]
abbrev P_must_have_names : List Str := ["terms", "point"]
theorem sc_must_have_names : FnScope N_must_have_names P_must_have_names (defScope s_must_have_names) := ⟨rfl, rfl, rfl, by decide +kernel, rfl, by decide +kernel, by decide +kernel⟩
abbrev s_common_divisor : Stmt := top 16
abbrev N_common_divisor : List Str := ["one", "other", "greater", "smaller", "pair", "rest"]
abbrev P_common_divisor : List Str := ["one", "other"]
theorem sc_common_divisor : FnScope N_common_divisor P_common_divisor (defScope s_common_divisor) := ⟨rfl, rfl, rfl, by decide +kernel, rfl, by decide +kernel, by decide +kernel⟩
abbrev s_l_cell : Stmt := top 20
abbrev N_l_cell : List Str := ["_law_script", "_law_k"]
abbrev P_l_cell : List Str := ["_law_script", "_law_k"]
theorem sc_l_cell : FnScope N_l_cell P_l_cell (defScope s_l_cell) := ⟨rfl, rfl, rfl, by decide +kernel, rfl, by decide +kernel, by decide +kernel⟩
abbrev s_l_purse : Stmt := top 21
abbrev N_l_purse : List Str := ["_law_cell_here", "_law_number_here", "_law_found", "_law_k"]
abbrev P_l_purse : List Str := ["_law_cell_here"]
theorem sc_l_purse : FnScope N_l_purse P_l_purse (defScope s_l_purse) := ⟨rfl, rfl, rfl, by decide +kernel, rfl, by decide +kernel, by decide +kernel⟩
abbrev s_l_take : Stmt := top 22
abbrev N_l_take : List Str := ["_law_purse_here", "_law_many", "_law_at", "_law_found"]
abbrev P_l_take : List Str := ["_law_purse_here", "_law_many"]
theorem sc_l_take : FnScope N_l_take P_l_take (defScope s_l_take) := ⟨rfl, rfl, rfl, by decide +kernel, rfl, by decide +kernel, by decide +kernel⟩
abbrev s_l_number : Stmt := top 23
abbrev N_l_number : List Str := ["_law_purse_here"]
abbrev P_l_number : List Str := ["_law_purse_here"]
theorem sc_l_number : FnScope N_l_number P_l_number (defScope s_l_number) := ⟨rfl, rfl, rfl, by decide +kernel, rfl, by decide +kernel, by decide +kernel⟩
abbrev s_l_terms : Stmt := top 24
abbrev N_l_terms : List Str := ["_law_purse_here", "_law_names_here", "_law_found", "_law_name", "_law_weight"]
abbrev P_l_terms : List Str := ["_law_purse_here", "_law_names_here"]
theorem sc_l_terms : FnScope N_l_terms P_l_terms (defScope s_l_terms) := ⟨rfl, rfl, rfl, by decide +kernel, rfl, by decide +kernel, by decide +kernel⟩
abbrev s_l_sum : Stmt := top 25
abbrev N_l_sum : List Str := ["_law_purse_here", "_law_names_here", "_law_by", "_law_terms_here"]
abbrev P_l_sum : List Str := ["_law_purse_here", "_law_names_here"]
theorem sc_l_sum : FnScope N_l_sum P_l_sum (defScope s_l_sum) := ⟨rfl, rfl, rfl, by decide +kernel, rfl, by decide +kernel, by decide +kernel⟩
abbrev s_l_row : Stmt := top 26
abbrev N_l_row : List Str := ["_law_purse_here", "_law_names_here", "_law_word", "_law_terms_here"]
abbrev P_l_row : List Str := ["_law_purse_here", "_law_names_here"]
theorem sc_l_row : FnScope N_l_row P_l_row (defScope s_l_row) := ⟨rfl, rfl, rfl, by decide +kernel, rfl, by decide +kernel, by decide +kernel⟩
abbrev s_l_names : Stmt := top 27
abbrev N_l_names : List Str := ["_law_cell_here", "_law_letters"]
abbrev P_l_names : List Str := ["_law_cell_here"]
theorem sc_l_names : FnScope N_l_names P_l_names (defScope s_l_names) := ⟨rfl, rfl, rfl, by decide +kernel, rfl, by decide +kernel, by decide +kernel⟩
abbrev s_l_caught : Stmt := top 28
abbrev N_l_caught : List Str := ["_law_way", "_law_total", "_law_row_here", "_law_point", "_law_caught_here", "_law_e"]
abbrev P_l_caught : List Str := ["_law_way", "_law_total", "_law_row_here", "_law_point"]
theorem sc_l_caught : FnScope N_l_caught P_l_caught (defScope s_l_caught) := ⟨rfl, rfl, rfl, by decide +kernel, rfl, by decide +kernel, by decide +kernel⟩
abbrev s_l_good : Stmt := top 29
abbrev N_l_good : List Str := ["_law_e", "_law_terms_here", "_law_point", "_law_lacks"]
abbrev P_l_good : List Str := ["_law_e", "_law_terms_here", "_law_point"]
theorem sc_l_good : FnScope N_l_good P_l_good (defScope s_l_good) := ⟨rfl, rfl, rfl, by decide +kernel, rfl, by decide +kernel, by decide +kernel⟩
abbrev s_l_made : Stmt := top 30
abbrev N_l_made : List Str := ["_law_number_here", "_law_place", "_law_one"]
abbrev P_l_made : List Str := ["_law_number_here", "_law_place"]
theorem sc_l_made : FnScope N_l_made P_l_made (defScope s_l_made) := ⟨rfl, rfl, rfl, by decide +kernel, rfl, by decide +kernel, by decide +kernel⟩
abbrev s_law : Stmt := top 31
abbrev N_law : List Str := ["_law_script", "_law_names_here", "_law_spare", "_law_cell_here", "_law_number_here", "_law_purse_here", "_law_total", "_law_row_here", "_law_point", "_law_k", "_law_kept"]
abbrev P_law : List Str := ["_law_script"]
theorem sc_law : FnScope N_law P_law (defScope s_law) := ⟨rfl, rfl, rfl, by decide +kernel, rfl, by decide +kernel, by decide +kernel⟩
end K05

namespace K05
open PySem PySem.Spec PyProof.Rows L2 D3 K01 KA
set_option hygiene false
local macro_rules | `(tactic| tm_at "cl") => `(tactic| first
  | ((with_reducible show EV _ _ _ (Expr.Call (Expr.Name "plus" _) _ _ _) _); (with_reducible refine' ev_callM ?n0 ?n1 ?n2 ?_ ?n3 ?n4 ?n5 ?n6); (case n0 => exact C_plus); (case n1 => exact hr); (case n2 => first | decide | omega); (case n3 => rfl); (case n4 => decide); (case n5 => rfl); (case n6 => rfl))
  | ((with_reducible show EV _ _ _ (Expr.Call (Expr.Name "times" _) _ _ _) _); (with_reducible refine' ev_callM ?n0 ?n1 ?n2 ?_ ?n3 ?n4 ?n5 ?n6); (case n0 => exact C_times); (case n1 => exact hr); (case n2 => first | decide | omega); (case n3 => rfl); (case n4 => decide); (case n5 => rfl); (case n6 => rfl))
  | ((with_reducible show EV _ _ _ (Expr.Call (Expr.Name "worth" _) _ _ _) _); (with_reducible refine' ev_callM ?n0 ?n1 ?n2 ?_ ?n3 ?n4 ?n5 ?n6); (case n0 => exact C_worth); (case n1 => exact hr); (case n2 => first | decide | omega); (case n3 => rfl); (case n4 => decide); (case n5 => rfl); (case n6 => rfl))
  | ((with_reducible show EV _ _ _ (Expr.Call (Expr.Name "is_so" _) _ _ _) _); (with_reducible refine' ev_callM ?n0 ?n1 ?n2 ?_ ?n3 ?n4 ?n5 ?n6); (case n0 => exact C_is_so); (case n1 => exact hr); (case n2 => first | decide | omega); (case n3 => rfl); (case n4 => decide); (case n5 => rfl); (case n6 => rfl))
  | ((with_reducible show EV _ _ _ (Expr.Call (Expr.Name "added_up" _) _ _ _) _); (with_reducible refine' ev_callM ?n0 ?n1 ?n2 ?_ ?n3 ?n4 ?n5 ?n6); (case n0 => exact C_added_up); (case n1 => exact hr); (case n2 => first | decide | omega); (case n3 => rfl); (case n4 => decide); (case n5 => rfl); (case n6 => rfl))
  | ((with_reducible show EV _ _ _ (Expr.Call (Expr.Name "must_have_names" _) _ _ _) _); (with_reducible refine' ev_callM ?n0 ?n1 ?n2 ?_ ?n3 ?n4 ?n5 ?n6); (case n0 => exact C_must_have_names); (case n1 => exact hr); (case n2 => first | decide | omega); (case n3 => rfl); (case n4 => decide); (case n5 => rfl); (case n6 => rfl))
  | ((with_reducible show EV _ _ _ (Expr.Call (Expr.Name "common_divisor" _) _ _ _) _); (with_reducible refine' ev_callM ?n0 ?n1 ?n2 ?_ ?n3 ?n4 ?n5 ?n6); (case n0 => exact C_common_divisor); (case n1 => exact hr); (case n2 => first | decide | omega); (case n3 => rfl); (case n4 => decide); (case n5 => rfl); (case n6 => rfl))
  | ((with_reducible show EV _ _ _ (Expr.Call (Expr.Name "many_steps" _) _ _ _) _); (with_reducible refine' ev_callM ?n0 ?n1 ?n2 ?_ ?n3 ?n4 ?n5 ?n6); (case n0 => exact C_many_steps); (case n1 => exact hr); (case n2 => first | decide | omega); (case n3 => rfl); (case n4 => decide); (case n5 => rfl); (case n6 => rfl))
  | ((with_reducible show EV _ _ _ (Expr.Call (Expr.Name "sure_steps" _) _ _ _) _); (with_reducible refine' ev_callM ?n0 ?n1 ?n2 ?_ ?n3 ?n4 ?n5 ?n6); (case n0 => exact C_sure_steps); (case n1 => exact hr); (case n2 => first | decide | omega); (case n3 => rfl); (case n4 => decide); (case n5 => rfl); (case n6 => rfl))
  | ((with_reducible show EV _ _ _ (Expr.Call (Expr.Name "_law_cell" _) _ _ _) _); (with_reducible refine' ev_callM ?n0 ?n1 ?n2 ?_ ?n3 ?n4 ?n5 ?n6); (case n0 => exact C_l_cell); (case n1 => exact hr); (case n2 => first | decide | omega); (case n3 => rfl); (case n4 => decide); (case n5 => rfl); (case n6 => rfl))
  | ((with_reducible show EV _ _ _ (Expr.Call (Expr.Name "_law_purse" _) _ _ _) _); (with_reducible refine' ev_callM ?n0 ?n1 ?n2 ?_ ?n3 ?n4 ?n5 ?n6); (case n0 => exact C_l_purse); (case n1 => exact hr); (case n2 => first | decide | omega); (case n3 => rfl); (case n4 => decide); (case n5 => rfl); (case n6 => rfl))
  | ((with_reducible show EV _ _ _ (Expr.Call (Expr.Name "_law_take" _) _ _ _) _); (with_reducible refine' ev_callM ?n0 ?n1 ?n2 ?_ ?n3 ?n4 ?n5 ?n6); (case n0 => exact C_l_take); (case n1 => exact hr); (case n2 => first | decide | omega); (case n3 => rfl); (case n4 => decide); (case n5 => rfl); (case n6 => rfl))
  | ((with_reducible show EV _ _ _ (Expr.Call (Expr.Name "_law_number" _) _ _ _) _); (with_reducible refine' ev_callM ?n0 ?n1 ?n2 ?_ ?n3 ?n4 ?n5 ?n6); (case n0 => exact C_l_number); (case n1 => exact hr); (case n2 => first | decide | omega); (case n3 => rfl); (case n4 => decide); (case n5 => rfl); (case n6 => rfl))
  | ((with_reducible show EV _ _ _ (Expr.Call (Expr.Name "_law_terms" _) _ _ _) _); (with_reducible refine' ev_callM ?n0 ?n1 ?n2 ?_ ?n3 ?n4 ?n5 ?n6); (case n0 => exact C_l_terms); (case n1 => exact hr); (case n2 => first | decide | omega); (case n3 => rfl); (case n4 => decide); (case n5 => rfl); (case n6 => rfl))
  | ((with_reducible show EV _ _ _ (Expr.Call (Expr.Name "_law_sum" _) _ _ _) _); (with_reducible refine' ev_callM ?n0 ?n1 ?n2 ?_ ?n3 ?n4 ?n5 ?n6); (case n0 => exact C_l_sum); (case n1 => exact hr); (case n2 => first | decide | omega); (case n3 => rfl); (case n4 => decide); (case n5 => rfl); (case n6 => rfl))
  | ((with_reducible show EV _ _ _ (Expr.Call (Expr.Name "_law_row" _) _ _ _) _); (with_reducible refine' ev_callM ?n0 ?n1 ?n2 ?_ ?n3 ?n4 ?n5 ?n6); (case n0 => exact C_l_row); (case n1 => exact hr); (case n2 => first | decide | omega); (case n3 => rfl); (case n4 => decide); (case n5 => rfl); (case n6 => rfl))
  | ((with_reducible show EV _ _ _ (Expr.Call (Expr.Name "_law_names" _) _ _ _) _); (with_reducible refine' ev_callM ?n0 ?n1 ?n2 ?_ ?n3 ?n4 ?n5 ?n6); (case n0 => exact C_l_names); (case n1 => exact hr); (case n2 => first | decide | omega); (case n3 => rfl); (case n4 => decide); (case n5 => rfl); (case n6 => rfl))
  | ((with_reducible show EV _ _ _ (Expr.Call (Expr.Name "_law_caught" _) _ _ _) _); (with_reducible refine' ev_callM ?n0 ?n1 ?n2 ?_ ?n3 ?n4 ?n5 ?n6); (case n0 => exact C_l_caught); (case n1 => exact hr); (case n2 => first | decide | omega); (case n3 => rfl); (case n4 => decide); (case n5 => rfl); (case n6 => rfl))
  | ((with_reducible show EV _ _ _ (Expr.Call (Expr.Name "_law_good" _) _ _ _) _); (with_reducible refine' ev_callM ?n0 ?n1 ?n2 ?_ ?n3 ?n4 ?n5 ?n6); (case n0 => exact C_l_good); (case n1 => exact hr); (case n2 => first | decide | omega); (case n3 => rfl); (case n4 => decide); (case n5 => rfl); (case n6 => rfl))
  | ((with_reducible show EV _ _ _ (Expr.Call (Expr.Name "_law_made" _) _ _ _) _); (with_reducible refine' ev_callM ?n0 ?n1 ?n2 ?_ ?n3 ?n4 ?n5 ?n6); (case n0 => exact C_l_made); (case n1 => exact hr); (case n2 => first | decide | omega); (case n3 => rfl); (case n4 => decide); (case n5 => rfl); (case n6 => rfl))
  | ((with_reducible show EV _ _ _ (Expr.Call (Expr.Name "law" _) _ _ _) _); (with_reducible refine' ev_callM ?n0 ?n1 ?n2 ?_ ?n3 ?n4 ?n5 ?n6); (case n0 => exact C_law); (case n1 => exact hr); (case n2 => first | decide | omega); (case n3 => rfl); (case n4 => decide); (case n5 => rfl); (case n6 => rfl)))
local macro_rules | `(tactic| tm_at "side") => `(tactic| first | assumption | decide | omega)
local macro_rules | `(tactic| tm_at "mulside") => `(tactic| first | assumption | exact mulOk)
local macro_rules | `(tactic| tm_at "divside") => `(tactic| first | assumption | exact divOk (by decide) | exact divOk (by assumption) | exact divOk (by omega))
local macro_rules | `(tactic| tm_at "modside") => `(tactic| first | assumption | decide | omega)
local macro_rules | `(tactic| tm_at "powside") => `(tactic| first | assumption | exact ⟨by decide, by decide, by decide⟩)
local macro_rules | `(tactic| tm_at "szside") => `(tactic| first | (exact small (Nat.le_of_ble_eq_true rfl)) | (exact small (by simp; omega)) | (exact small (by omega)))
local macro_rules | `(tactic| tm_at "v0") => `(tactic| ((with_reducible refine' ev_var 0 ?_ ?n1 ?n2 ?n3 ?n4 ?n5); (case n1 => rfl); (case n2 => rfl); (case n3 => first | exact Or.inl rfl | exact Or.inr (Or.inl rfl) | exact Or.inr (Or.inr rfl)); (case n4 => decide); (case n5 => decide)))
local macro_rules | `(tactic| tm_at "v1") => `(tactic| ((with_reducible refine' ev_var 1 ?_ ?n1 ?n2 ?n3 ?n4 ?n5); (case n1 => rfl); (case n2 => rfl); (case n3 => first | exact Or.inl rfl | exact Or.inr (Or.inl rfl) | exact Or.inr (Or.inr rfl)); (case n4 => decide); (case n5 => decide)))
local macro_rules | `(tactic| tm_at "v2") => `(tactic| ((with_reducible refine' ev_var 2 ?_ ?n1 ?n2 ?n3 ?n4 ?n5); (case n1 => rfl); (case n2 => rfl); (case n3 => first | exact Or.inl rfl | exact Or.inr (Or.inl rfl) | exact Or.inr (Or.inr rfl)); (case n4 => decide); (case n5 => decide)))
local macro_rules | `(tactic| tm_at "v3") => `(tactic| ((with_reducible refine' ev_var 3 ?_ ?n1 ?n2 ?n3 ?n4 ?n5); (case n1 => rfl); (case n2 => rfl); (case n3 => first | exact Or.inl rfl | exact Or.inr (Or.inl rfl) | exact Or.inr (Or.inr rfl)); (case n4 => decide); (case n5 => decide)))
local macro_rules | `(tactic| tm_at "v4") => `(tactic| ((with_reducible refine' ev_var 4 ?_ ?n1 ?n2 ?n3 ?n4 ?n5); (case n1 => rfl); (case n2 => rfl); (case n3 => first | exact Or.inl rfl | exact Or.inr (Or.inl rfl) | exact Or.inr (Or.inr rfl)); (case n4 => decide); (case n5 => decide)))
local macro_rules | `(tactic| tm_at "v5") => `(tactic| ((with_reducible refine' ev_var 5 ?_ ?n1 ?n2 ?n3 ?n4 ?n5); (case n1 => rfl); (case n2 => rfl); (case n3 => first | exact Or.inl rfl | exact Or.inr (Or.inl rfl) | exact Or.inr (Or.inr rfl)); (case n4 => decide); (case n5 => decide)))
local macro_rules | `(tactic| tm_at "v6") => `(tactic| ((with_reducible refine' ev_var 6 ?_ ?n1 ?n2 ?n3 ?n4 ?n5); (case n1 => rfl); (case n2 => rfl); (case n3 => first | exact Or.inl rfl | exact Or.inr (Or.inl rfl) | exact Or.inr (Or.inr rfl)); (case n4 => decide); (case n5 => decide)))
local macro_rules | `(tactic| tm_at "v7") => `(tactic| ((with_reducible refine' ev_var 7 ?_ ?n1 ?n2 ?n3 ?n4 ?n5); (case n1 => rfl); (case n2 => rfl); (case n3 => first | exact Or.inl rfl | exact Or.inr (Or.inl rfl) | exact Or.inr (Or.inr rfl)); (case n4 => decide); (case n5 => decide)))
local macro_rules | `(tactic| tm_at "v8") => `(tactic| ((with_reducible refine' ev_var 8 ?_ ?n1 ?n2 ?n3 ?n4 ?n5); (case n1 => rfl); (case n2 => rfl); (case n3 => first | exact Or.inl rfl | exact Or.inr (Or.inl rfl) | exact Or.inr (Or.inr rfl)); (case n4 => decide); (case n5 => decide)))
local macro_rules | `(tactic| tm_at "v9") => `(tactic| ((with_reducible refine' ev_var 9 ?_ ?n1 ?n2 ?n3 ?n4 ?n5); (case n1 => rfl); (case n2 => rfl); (case n3 => first | exact Or.inl rfl | exact Or.inr (Or.inl rfl) | exact Or.inr (Or.inr rfl)); (case n4 => decide); (case n5 => decide)))
local macro_rules | `(tactic| tm_at "v10") => `(tactic| ((with_reducible refine' ev_var 10 ?_ ?n1 ?n2 ?n3 ?n4 ?n5); (case n1 => rfl); (case n2 => rfl); (case n3 => first | exact Or.inl rfl | exact Or.inr (Or.inl rfl) | exact Or.inr (Or.inr rfl)); (case n4 => decide); (case n5 => decide)))
local macro_rules | `(tactic| tm_at "v11") => `(tactic| ((with_reducible refine' ev_var 11 ?_ ?n1 ?n2 ?n3 ?n4 ?n5); (case n1 => rfl); (case n2 => rfl); (case n3 => first | exact Or.inl rfl | exact Or.inr (Or.inl rfl) | exact Or.inr (Or.inr rfl)); (case n4 => decide); (case n5 => decide)))
local macro_rules | `(tactic| tm_at "v12") => `(tactic| ((with_reducible refine' ev_var 12 ?_ ?n1 ?n2 ?n3 ?n4 ?n5); (case n1 => rfl); (case n2 => rfl); (case n3 => first | exact Or.inl rfl | exact Or.inr (Or.inl rfl) | exact Or.inr (Or.inr rfl)); (case n4 => decide); (case n5 => decide)))
local macro_rules | `(tactic| tm_at "v13") => `(tactic| ((with_reducible refine' ev_var 13 ?_ ?n1 ?n2 ?n3 ?n4 ?n5); (case n1 => rfl); (case n2 => rfl); (case n3 => first | exact Or.inl rfl | exact Or.inr (Or.inl rfl) | exact Or.inr (Or.inr rfl)); (case n4 => decide); (case n5 => decide)))
local macro_rules | `(tactic| tm_at "v14") => `(tactic| ((with_reducible refine' ev_var 14 ?_ ?n1 ?n2 ?n3 ?n4 ?n5); (case n1 => rfl); (case n2 => rfl); (case n3 => first | exact Or.inl rfl | exact Or.inr (Or.inl rfl) | exact Or.inr (Or.inr rfl)); (case n4 => decide); (case n5 => decide)))
local macro_rules | `(tactic| tm_at "v15") => `(tactic| ((with_reducible refine' ev_var 15 ?_ ?n1 ?n2 ?n3 ?n4 ?n5); (case n1 => rfl); (case n2 => rfl); (case n3 => first | exact Or.inl rfl | exact Or.inr (Or.inl rfl) | exact Or.inr (Or.inr rfl)); (case n4 => decide); (case n5 => decide)))
local macro_rules | `(tactic| tm_at "var") => `(tactic| ((with_reducible show EV _ _ _ (Expr.Name _ _) _); first | tm_at "v0" | tm_at "v1" | tm_at "v2" | tm_at "v3" | tm_at "v4" | tm_at "v5" | tm_at "v6" | tm_at "v7" | tm_at "v8" | tm_at "v9" | tm_at "v10" | tm_at "v11" | tm_at "v12" | tm_at "v13" | tm_at "v14" | tm_at "v15"))
local macro_rules | `(tactic| tm_at "a0") => `(tactic| ((with_reducible refine' ex_set 0 ?n0 ?_ ?n1 ?n2 ?n3 ?n4); (case n0 => exact nd); (case n1 => rfl); (case n2 => first | exact Or.inl rfl | exact Or.inr rfl); (case n3 => kernel_rfl); (case n4 => first | exact .inl rfl | exact .inr rfl)))
local macro_rules | `(tactic| tm_at "a1") => `(tactic| ((with_reducible refine' ex_set 1 ?n0 ?_ ?n1 ?n2 ?n3 ?n4); (case n0 => exact nd); (case n1 => rfl); (case n2 => first | exact Or.inl rfl | exact Or.inr rfl); (case n3 => kernel_rfl); (case n4 => first | exact .inl rfl | exact .inr rfl)))
local macro_rules | `(tactic| tm_at "a2") => `(tactic| ((with_reducible refine' ex_set 2 ?n0 ?_ ?n1 ?n2 ?n3 ?n4); (case n0 => exact nd); (case n1 => rfl); (case n2 => first | exact Or.inl rfl | exact Or.inr rfl); (case n3 => kernel_rfl); (case n4 => first | exact .inl rfl | exact .inr rfl)))
local macro_rules | `(tactic| tm_at "a3") => `(tactic| ((with_reducible refine' ex_set 3 ?n0 ?_ ?n1 ?n2 ?n3 ?n4); (case n0 => exact nd); (case n1 => rfl); (case n2 => first | exact Or.inl rfl | exact Or.inr rfl); (case n3 => kernel_rfl); (case n4 => first | exact .inl rfl | exact .inr rfl)))
local macro_rules | `(tactic| tm_at "a4") => `(tactic| ((with_reducible refine' ex_set 4 ?n0 ?_ ?n1 ?n2 ?n3 ?n4); (case n0 => exact nd); (case n1 => rfl); (case n2 => first | exact Or.inl rfl | exact Or.inr rfl); (case n3 => kernel_rfl); (case n4 => first | exact .inl rfl | exact .inr rfl)))
local macro_rules | `(tactic| tm_at "a5") => `(tactic| ((with_reducible refine' ex_set 5 ?n0 ?_ ?n1 ?n2 ?n3 ?n4); (case n0 => exact nd); (case n1 => rfl); (case n2 => first | exact Or.inl rfl | exact Or.inr rfl); (case n3 => kernel_rfl); (case n4 => first | exact .inl rfl | exact .inr rfl)))
local macro_rules | `(tactic| tm_at "a6") => `(tactic| ((with_reducible refine' ex_set 6 ?n0 ?_ ?n1 ?n2 ?n3 ?n4); (case n0 => exact nd); (case n1 => rfl); (case n2 => first | exact Or.inl rfl | exact Or.inr rfl); (case n3 => kernel_rfl); (case n4 => first | exact .inl rfl | exact .inr rfl)))
local macro_rules | `(tactic| tm_at "a7") => `(tactic| ((with_reducible refine' ex_set 7 ?n0 ?_ ?n1 ?n2 ?n3 ?n4); (case n0 => exact nd); (case n1 => rfl); (case n2 => first | exact Or.inl rfl | exact Or.inr rfl); (case n3 => kernel_rfl); (case n4 => first | exact .inl rfl | exact .inr rfl)))
local macro_rules | `(tactic| tm_at "a8") => `(tactic| ((with_reducible refine' ex_set 8 ?n0 ?_ ?n1 ?n2 ?n3 ?n4); (case n0 => exact nd); (case n1 => rfl); (case n2 => first | exact Or.inl rfl | exact Or.inr rfl); (case n3 => kernel_rfl); (case n4 => first | exact .inl rfl | exact .inr rfl)))
local macro_rules | `(tactic| tm_at "a9") => `(tactic| ((with_reducible refine' ex_set 9 ?n0 ?_ ?n1 ?n2 ?n3 ?n4); (case n0 => exact nd); (case n1 => rfl); (case n2 => first | exact Or.inl rfl | exact Or.inr rfl); (case n3 => kernel_rfl); (case n4 => first | exact .inl rfl | exact .inr rfl)))
local macro_rules | `(tactic| tm_at "a10") => `(tactic| ((with_reducible refine' ex_set 10 ?n0 ?_ ?n1 ?n2 ?n3 ?n4); (case n0 => exact nd); (case n1 => rfl); (case n2 => first | exact Or.inl rfl | exact Or.inr rfl); (case n3 => kernel_rfl); (case n4 => first | exact .inl rfl | exact .inr rfl)))
local macro_rules | `(tactic| tm_at "a11") => `(tactic| ((with_reducible refine' ex_set 11 ?n0 ?_ ?n1 ?n2 ?n3 ?n4); (case n0 => exact nd); (case n1 => rfl); (case n2 => first | exact Or.inl rfl | exact Or.inr rfl); (case n3 => kernel_rfl); (case n4 => first | exact .inl rfl | exact .inr rfl)))
local macro_rules | `(tactic| tm_at "a12") => `(tactic| ((with_reducible refine' ex_set 12 ?n0 ?_ ?n1 ?n2 ?n3 ?n4); (case n0 => exact nd); (case n1 => rfl); (case n2 => first | exact Or.inl rfl | exact Or.inr rfl); (case n3 => kernel_rfl); (case n4 => first | exact .inl rfl | exact .inr rfl)))
local macro_rules | `(tactic| tm_at "a13") => `(tactic| ((with_reducible refine' ex_set 13 ?n0 ?_ ?n1 ?n2 ?n3 ?n4); (case n0 => exact nd); (case n1 => rfl); (case n2 => first | exact Or.inl rfl | exact Or.inr rfl); (case n3 => kernel_rfl); (case n4 => first | exact .inl rfl | exact .inr rfl)))
local macro_rules | `(tactic| tm_at "a14") => `(tactic| ((with_reducible refine' ex_set 14 ?n0 ?_ ?n1 ?n2 ?n3 ?n4); (case n0 => exact nd); (case n1 => rfl); (case n2 => first | exact Or.inl rfl | exact Or.inr rfl); (case n3 => kernel_rfl); (case n4 => first | exact .inl rfl | exact .inr rfl)))
local macro_rules | `(tactic| tm_at "a15") => `(tactic| ((with_reducible refine' ex_set 15 ?n0 ?_ ?n1 ?n2 ?n3 ?n4); (case n0 => exact nd); (case n1 => rfl); (case n2 => first | exact Or.inl rfl | exact Or.inr rfl); (case n3 => kernel_rfl); (case n4 => first | exact .inl rfl | exact .inr rfl)))
local macro_rules | `(tactic| tm_at "asg") => `(tactic| ((with_reducible show EX _ _ _ (Stmt.Assign [Expr.Name _ _] _ _) _); first | tm_at "a0" | tm_at "a1" | tm_at "a2" | tm_at "a3" | tm_at "a4" | tm_at "a5" | tm_at "a6" | tm_at "a7" | tm_at "a8" | tm_at "a9" | tm_at "a10" | tm_at "a11" | tm_at "a12" | tm_at "a13" | tm_at "a14" | tm_at "a15"))
local macro_rules | `(tactic| tm_at "g0") => `(tactic| ((with_reducible refine gv_name 0 ?n0 ?_ ?n1 ?n2 ?n3); (case n0 => exact nd); (case n1 => rfl); (case n2 => first | exact Or.inl rfl | exact Or.inr rfl); (case n3 => first | exact .inl rfl | exact .inr rfl)))
local macro_rules | `(tactic| tm_at "g1") => `(tactic| ((with_reducible refine gv_name 1 ?n0 ?_ ?n1 ?n2 ?n3); (case n0 => exact nd); (case n1 => rfl); (case n2 => first | exact Or.inl rfl | exact Or.inr rfl); (case n3 => first | exact .inl rfl | exact .inr rfl)))
local macro_rules | `(tactic| tm_at "g2") => `(tactic| ((with_reducible refine gv_name 2 ?n0 ?_ ?n1 ?n2 ?n3); (case n0 => exact nd); (case n1 => rfl); (case n2 => first | exact Or.inl rfl | exact Or.inr rfl); (case n3 => first | exact .inl rfl | exact .inr rfl)))
local macro_rules | `(tactic| tm_at "g3") => `(tactic| ((with_reducible refine gv_name 3 ?n0 ?_ ?n1 ?n2 ?n3); (case n0 => exact nd); (case n1 => rfl); (case n2 => first | exact Or.inl rfl | exact Or.inr rfl); (case n3 => first | exact .inl rfl | exact .inr rfl)))
local macro_rules | `(tactic| tm_at "g4") => `(tactic| ((with_reducible refine gv_name 4 ?n0 ?_ ?n1 ?n2 ?n3); (case n0 => exact nd); (case n1 => rfl); (case n2 => first | exact Or.inl rfl | exact Or.inr rfl); (case n3 => first | exact .inl rfl | exact .inr rfl)))
local macro_rules | `(tactic| tm_at "g5") => `(tactic| ((with_reducible refine gv_name 5 ?n0 ?_ ?n1 ?n2 ?n3); (case n0 => exact nd); (case n1 => rfl); (case n2 => first | exact Or.inl rfl | exact Or.inr rfl); (case n3 => first | exact .inl rfl | exact .inr rfl)))
local macro_rules | `(tactic| tm_at "g6") => `(tactic| ((with_reducible refine gv_name 6 ?n0 ?_ ?n1 ?n2 ?n3); (case n0 => exact nd); (case n1 => rfl); (case n2 => first | exact Or.inl rfl | exact Or.inr rfl); (case n3 => first | exact .inl rfl | exact .inr rfl)))
local macro_rules | `(tactic| tm_at "g7") => `(tactic| ((with_reducible refine gv_name 7 ?n0 ?_ ?n1 ?n2 ?n3); (case n0 => exact nd); (case n1 => rfl); (case n2 => first | exact Or.inl rfl | exact Or.inr rfl); (case n3 => first | exact .inl rfl | exact .inr rfl)))
local macro_rules | `(tactic| tm_at "g8") => `(tactic| ((with_reducible refine gv_name 8 ?n0 ?_ ?n1 ?n2 ?n3); (case n0 => exact nd); (case n1 => rfl); (case n2 => first | exact Or.inl rfl | exact Or.inr rfl); (case n3 => first | exact .inl rfl | exact .inr rfl)))
local macro_rules | `(tactic| tm_at "g9") => `(tactic| ((with_reducible refine gv_name 9 ?n0 ?_ ?n1 ?n2 ?n3); (case n0 => exact nd); (case n1 => rfl); (case n2 => first | exact Or.inl rfl | exact Or.inr rfl); (case n3 => first | exact .inl rfl | exact .inr rfl)))
local macro_rules | `(tactic| tm_at "g10") => `(tactic| ((with_reducible refine gv_name 10 ?n0 ?_ ?n1 ?n2 ?n3); (case n0 => exact nd); (case n1 => rfl); (case n2 => first | exact Or.inl rfl | exact Or.inr rfl); (case n3 => first | exact .inl rfl | exact .inr rfl)))
local macro_rules | `(tactic| tm_at "g11") => `(tactic| ((with_reducible refine gv_name 11 ?n0 ?_ ?n1 ?n2 ?n3); (case n0 => exact nd); (case n1 => rfl); (case n2 => first | exact Or.inl rfl | exact Or.inr rfl); (case n3 => first | exact .inl rfl | exact .inr rfl)))
local macro_rules | `(tactic| tm_at "g12") => `(tactic| ((with_reducible refine gv_name 12 ?n0 ?_ ?n1 ?n2 ?n3); (case n0 => exact nd); (case n1 => rfl); (case n2 => first | exact Or.inl rfl | exact Or.inr rfl); (case n3 => first | exact .inl rfl | exact .inr rfl)))
local macro_rules | `(tactic| tm_at "g13") => `(tactic| ((with_reducible refine gv_name 13 ?n0 ?_ ?n1 ?n2 ?n3); (case n0 => exact nd); (case n1 => rfl); (case n2 => first | exact Or.inl rfl | exact Or.inr rfl); (case n3 => first | exact .inl rfl | exact .inr rfl)))
local macro_rules | `(tactic| tm_at "g14") => `(tactic| ((with_reducible refine gv_name 14 ?n0 ?_ ?n1 ?n2 ?n3); (case n0 => exact nd); (case n1 => rfl); (case n2 => first | exact Or.inl rfl | exact Or.inr rfl); (case n3 => first | exact .inl rfl | exact .inr rfl)))
local macro_rules | `(tactic| tm_at "g15") => `(tactic| ((with_reducible refine gv_name 15 ?n0 ?_ ?n1 ?n2 ?n3); (case n0 => exact nd); (case n1 => rfl); (case n2 => first | exact Or.inl rfl | exact Or.inr rfl); (case n3 => first | exact .inl rfl | exact .inr rfl)))
local macro_rules | `(tactic| tm_at "gvn") => `(tactic| ((with_reducible show GV _ _ _ (Expr.Name _ _) _ _); first | tm_at "g0" | tm_at "g1" | tm_at "g2" | tm_at "g3" | tm_at "g4" | tm_at "g5" | tm_at "g6" | tm_at "g7" | tm_at "g8" | tm_at "g9" | tm_at "g10" | tm_at "g11" | tm_at "g12" | tm_at "g13" | tm_at "g14" | tm_at "g15"))
local macro_rules | `(tactic| tm_at "ev") => `(tactic| first
  | with_reducible refine ev_bl ?_ | with_reducible refine ev_non ?_ | with_reducible refine ev_str ?_
  | with_reducible refine ev_add ?_ | with_reducible refine l_sub ?_ | with_reducible refine l_mul ?_ | with_reducible refine l_fdiv ?_ | with_reducible refine l_mod ?_ | with_reducible refine l_pow ?_ | with_reducible refine l_neg ?_
  | with_reducible refine l_lt ?_ | with_reducible refine l_le ?_ | with_reducible refine l_gt ?_ | with_reducible refine l_ge ?_
  | ((with_reducible show EV _ _ _ (Expr.Compare _ [CmpOp.Eq] _ _) _); (with_reducible refine l_eq ?n0 ?_); (case n0 => exact hr.units))
  | ((with_reducible show EV _ _ _ (Expr.Compare _ [CmpOp.NotEq] _ _) _); (with_reducible refine l_ne ?n0 ?_); (case n0 => exact hr.units))
  | ((with_reducible show EV _ _ _ (Expr.Compare _ [CmpOp.In] _ _) _); (with_reducible refine l_in ?n1 ?_ ?n0); (case n1 => exact hr.units); (case n0 => rfl))
  | ((with_reducible show EV _ _ _ (Expr.Compare _ [CmpOp.NotIn] _ _) _); (with_reducible refine l_notin ?n1 ?_ ?n0); (case n1 => exact hr.units); (case n0 => rfl))
  | with_reducible refine ev_is ?_ | with_reducible refine ev_dnew ?_
  | with_reducible refine ev_not ?_ | with_reducible refine ev_one ?_ | with_reducible refine ev_and ?_ | with_reducible refine ev_or ?_ | with_reducible refine ev_ifExp ?_
  | with_reducible refine ev_tup ?_ | with_reducible refine ev_lst ?_ | with_reducible refine av_nil ?_ | ((with_reducible show AV _ _ _ (_ :: _) _); (with_reducible refine av_cons ?_ ?n0); (case n0 => rfl))
  | ((with_reducible show EV _ _ _ (Expr.Subscript _ (Expr.Constant _ _ _) _) _); (with_reducible refine l_item ?n1 ?_ ?n0); (case n1 => exact hr.units); (case n0 => (intro _ _; rfl)))
  | ((with_reducible show EV _ _ _ (Expr.Subscript _ (Expr.UnaryOp _ _ _) _) _); (with_reducible refine l_item ?n1 ?_ ?n0); (case n1 => exact hr.units); (case n0 => (intro _ _; rfl)))
  | ((with_reducible show EV _ _ _ (Expr.Subscript _ (Expr.Name _ _) _) _); (with_reducible refine l_item ?n1 ?_ ?n0); (case n1 => exact hr.units); (case n0 => (intro _ _; rfl)))
  | ((with_reducible show EV _ _ _ (Expr.Subscript _ (Expr.BinOp _ _ _ _) _) _); (with_reducible refine l_item ?n1 ?_ ?n0); (case n1 => exact hr.units); (case n0 => (intro _ _; rfl)))
  | ((with_reducible show EV _ _ _ (Expr.Subscript _ (Expr.Call _ _ _ _) _) _); (with_reducible refine l_item ?n1 ?_ ?n0); (case n1 => exact hr.units); (case n0 => (intro _ _; rfl)))
  | with_reducible refine lt_lt ?_ | with_reducible refine lt_le ?_ | with_reducible refine lt_gt ?_ | with_reducible refine lt_ge ?_ | with_reducible refine tv_not ?_
  | ((with_reducible show TV _ _ _ (Expr.Compare _ [CmpOp.Eq] _ _) _); (with_reducible refine lt_eq ?n0 ?_); (case n0 => exact hr.units))
  | ((with_reducible show TV _ _ _ (Expr.Compare _ [CmpOp.NotEq] _ _) _); (with_reducible refine lt_ne ?n0 ?_); (case n0 => exact hr.units))
  | ((with_reducible show TV _ _ _ (Expr.Compare _ [CmpOp.In] _ _) _); (with_reducible refine lt_in ?n1 ?_ ?n0); (case n1 => exact hr.units); (case n0 => rfl))
  | ((with_reducible show TV _ _ _ (Expr.Compare _ [CmpOp.NotIn] _ _) _); (with_reducible refine lt_notin ?n1 ?_ ?n0); (case n1 => exact hr.units); (case n0 => rfl))
  | with_reducible refine tv_is ?_
  | ((with_reducible show TV _ _ _ (Expr.Call _ _ _ _) _); (with_reducible refine tv_call ?_ ?n0); (case n0 => (intro _; rfl)))
  | with_reducible refine TW.tv (tw_and ?_) | with_reducible refine TW.tv (tw_or ?_) | with_reducible refine tw_and1 ?_ | with_reducible refine tw_or1 ?_ | with_reducible refine tw_and ?_ | with_reducible refine tw_or ?_)
local macro_rules | `(tactic| tm_at "blt") => `(tactic| first
  | ((with_reducible show EV _ _ _ (Expr.Call (Expr.Name "tuple" _) [_] _ _) _); (with_reducible refine ev_tupleC ?n0 ?_ ?n1 ?n2 ?n3); (case n0 => exact h_tuple); (case n1 => rfl); (case n2 => rfl); (case n3 => rfl))
  | ((with_reducible show EV _ _ _ (Expr.Call (Expr.Name "dict" _) [_] _ _) _); (with_reducible refine ev_dictC ?n0 ?_ ?n1 ?n2 ?n3); (case n0 => exact h_dict); (case n1 => rfl); (case n2 => rfl); (case n3 => rfl))
  | ((with_reducible show EV _ _ _ (Expr.Call (Expr.Name "sorted" _) [_] _ _) _); (with_reducible refine ev_sortedS ?n0 ?_ ?n1 ?n2 ?n3); (case n0 => exact h_sorted); (case n1 => rfl); (case n2 => rfl); (case n3 => rfl))
  | ((with_reducible show EV _ _ _ (Expr.Call (Expr.Name "list" _) [_] _ _) _); (with_reducible refine ev_listC ?n0 ?_ ?n1 ?n2 ?n3); (case n0 => exact h_list); (case n1 => rfl); (case n2 => rfl); (case n3 => rfl))
  | ((with_reducible show EV _ _ _ (Expr.Call (Expr.Attribute _ "append" _) [_] [] _) _); (with_reducible refine ev_append ?_ ?n1 ?n2 ?n3 ?n4 ?n5); (case n1 => rfl); (case n2 => rfl); (case n3 => rfl); (case n4 => rfl); (case n5 => rfl))
  | ((with_reducible show EV _ _ _ (Expr.Call (Expr.Name "abs" _) _ _ _) _); (with_reducible refine ev_abs ?n0 ?_ ?n1 ?n2 ?n3); (case n0 => exact h_abs); (case n1 => rfl); (case n2 => rfl); (case n3 => rfl))
  | ((with_reducible show EV _ _ _ (Expr.Call (Expr.Name "len" _) _ _ _) _); (with_reducible refine ev_len ?n0 ?_ ?n1 ?n2 ?n3); (case n0 => exact h_len); (case n1 => rfl); (case n2 => rfl); (case n3 => rfl))
  | ((with_reducible show EV _ _ _ (Expr.Call (Expr.Name "int" _) _ _ _) _); (with_reducible refine ev_intC ?n0 ?_ ?n1 ?n2 ?n3); (case n0 => exact h_int); (case n1 => rfl); (case n2 => rfl); (case n3 => rfl))
  | ((with_reducible show EV _ _ _ (Expr.Call (Expr.Name "max" _) [_, _] _ _) _); (with_reducible refine ev_max2 ?n0 ?n9 ?_ ?n1 ?n2 ?n3); (case n0 => exact h_max); (case n9 => rfl); (case n1 => rfl); (case n2 => rfl); (case n3 => rfl))
  | ((with_reducible show EV _ _ _ (Expr.Call (Expr.Name "min" _) [_, _] _ _) _); (with_reducible refine ev_min2 ?n0 ?n9 ?_ ?n1 ?n2 ?n3); (case n0 => exact h_min); (case n9 => rfl); (case n1 => rfl); (case n2 => rfl); (case n3 => rfl))
  | ((with_reducible show EV _ _ _ (Expr.Call (Expr.Name "isinstance" _) [_, _] _ _) _); (with_reducible refine ev_isi ?n0 ?_ ?n1 ?n2 ?n3); (case n0 => exact h_isinstance); (case n1 => rfl); (case n2 => rfl); (case n3 => rfl))
  | ((with_reducible show EV _ _ _ (Expr.Name "int" _) _); (with_reducible refine' ev_gty ?n0 ?n1 ?_ ?n2 ?n3 ?n4); (case n0 => exact h_int); (case n1 => exact bootInt); (case n2 => rfl); (case n3 => decide); (case n4 => decide))
  | ((with_reducible show EV _ _ _ (Expr.Name "bool" _) _); (with_reducible refine' ev_gty ?n0 ?n1 ?_ ?n2 ?n3 ?n4); (case n0 => exact h_bool); (case n1 => exact bootBool); (case n2 => rfl); (case n3 => decide); (case n4 => decide))
  | ((with_reducible show EV _ _ _ (Expr.Name "tuple" _) _); (with_reducible refine' ev_gty ?n0 ?n1 ?_ ?n2 ?n3 ?n4); (case n0 => exact h_tuple); (case n1 => exact bootTuple); (case n2 => rfl); (case n3 => decide); (case n4 => decide)))
local macro_rules | `(tactic| tm_at "st") => `(tactic| first
  | with_reducible refine tvs_one ?_ | with_reducible refine tvs_nil ?_
  | with_reducible refine exs_nil ?_ | with_reducible refine exs_one ?_ | ((with_reducible show EXs _ _ _ (Stmt.Assign _ _ _ :: _) _); with_reducible refine exs_cons ?_) | ((with_reducible show EXs _ _ _ (Stmt.Expr _ _ :: _) _); with_reducible refine exs_cons ?_)
  | with_reducible refine ex_if ?_ | with_reducible refine ex_ret ?_ | with_reducible refine ex_pass ?_ | with_reducible refine ex_retN ?_
  | ((with_reducible show EX _ _ _ (Stmt.Expr _ _) _); (with_reducible refine ex_expr ?_ ?n0); (case n0 => kernel_rfl))
  | ((fail_if_success (with_reducible show EX _ _ _ (Stmt.Assign _ (Expr.ListComp _ _ _ _) _) _)); tm_at "asg") | tm_at "gvn"
  | ((with_reducible show EX _ _ _ (Stmt.Assign [Expr.Subscript _ _ _] _ _) _); (with_reducible refine ex_asg ?_ ?n1 ?n2 ?n3); (case n1 => kernel_rfl); (case n2 => kernel_rfl); (case n3 => rfl))
  | ((with_reducible show EX _ _ _ (Stmt.Assign [Expr.Tuple _ _ _] _ _) _); (with_reducible refine ex_asg ?_ ?n1 ?n2 ?n3); (case n1 => kernel_rfl); (case n2 => kernel_rfl); (case n3 => rfl))
  | ((with_reducible show GV _ _ _ (Expr.Subscript _ _ _) _ _); (with_reducible refine gv_set ?n1 ?_ ?n2); (case n1 => exact hr.units); (case n2 => (intro _; rfl)))
  | ((with_reducible show GV _ _ _ (Expr.Tuple _ _ _) (D.tup _) _); (with_reducible refine gv_tup ?n1 ?_ ?n2 ?n3); (case n1 => rfl); (case n2 => rfl); (case n3 => rfl))
  | ((with_reducible show GVs _ _ _ (_ :: _) (_ :: _) _); (with_reducible refine gvs_cons ?_ ?n1); (case n1 => rfl)) | with_reducible refine gvs_nil ?_)
local macro_rules | `(tactic| tm_at "lf") => `(tactic| first
  | with_reducible refine add_ii ?_ | with_reducible refine sub_l ?_ | with_reducible refine neg_l ?_ | with_reducible refine cmp_l ?_
  | with_reducible refine eq_ii ?_ | with_reducible refine eq_ss ?_ | with_reducible refine eq_bb ?_
  | ((with_reducible show MulL (D.int _) (D.int _) _ _); refine mul_l (by tm_at "mulside") ?_)
  | ((with_reducible show DivL (D.int _) (D.int _) _ _); refine div_l (by tm_at "divside") ?_)
  | ((with_reducible show ModL (D.int _) (D.int _) _ _); refine mod_l (by tm_at "modside") ?_)
  | ((with_reducible show PowL (D.int 10) (D.int 12) _ _); refine pow_n (k := 1000000000000) (by decide +kernel) ⟨by decide, by decide, by decide⟩ ?_) | ((with_reducible show PowL (D.int 10) (D.int 18) _ _); refine pow_n (k := 1000000000000000000) (by decide +kernel) ⟨by decide, by decide, by decide⟩ ?_) | ((with_reducible show PowL (D.int 10) (D.int 19) _ _); refine pow_n (k := 10000000000000000000) (by decide +kernel) ⟨by decide, by decide, by decide⟩ ?_) | ((with_reducible show PowL (D.int 10) (D.int 40) _ _); refine pow_n (k := 10000000000000000000000000000000000000000) (by decide +kernel) ⟨by decide, by decide, by decide⟩ ?_) | ((with_reducible show PowL (D.int 10) (D.int 50) _ _); refine pow_n (k := 100000000000000000000000000000000000000000000000000) (by decide +kernel) ⟨by decide, by decide, by decide⟩ ?_) | ((with_reducible show PowL (D.int 10) (D.int 59) _ _); refine pow_n (k := 100000000000000000000000000000000000000000000000000000000000) (by decide +kernel) ⟨by decide, by decide, by decide⟩ ?_)
  | ((with_reducible show IxA (D.tup _) (D.int _) _ _); refine ix_at rfl ?_)
  | with_reducible refine in_t ?_
  | ((with_reducible show _ ≤ sizeLine ∧ _); refine ⟨by tm_at "szside", ?_⟩)
  | ((with_reducible show ite (true = true) _ _); refine ifT ?_) | ((with_reducible show ite (false = true) _ _); refine ifF ?_)
  | ((with_reducible show ite ((!true) = true) _ _); refine ifNT ?_) | ((with_reducible show ite ((!false) = true) _ _); refine ifNF ?_)
  | ((with_reducible show ∃ k, D.bl _ = D.bl k ∧ _); refine ⟨_, rfl, ?_⟩) | ((with_reducible show ∃ k, D.int _ = D.int k ∧ _); refine ⟨_, rfl, ?_⟩)
  | ((with_reducible show ∃ k, TruD _ (D.bl _) _ k ∧ _); refine ⟨_, rfl, ?_⟩) | ((with_reducible show ∃ k, TruD _ (D.tup _) _ k ∧ _); refine ⟨_, rfl, ?_⟩) | ((with_reducible show ∃ k, TruD _ (D.int _) _ k ∧ _); refine ⟨_, rfl, ?_⟩)
  | ((with_reducible show ∃ k, IsDv _ _ k ∧ _); refine ⟨_, rfl, ?_⟩)
  | ((with_reducible show ∃ k, [D.int _] = [D.int k] ∧ _); refine ⟨_, rfl, ?_⟩)
  | ((with_reducible show ∃ i j, [D.int _, D.int _] = [D.int i, D.int j] ∧ _); refine ⟨_, _, rfl, ?_⟩))
local macro_rules | `(tactic| tm_at "d") => `(tactic| first | with_reducible refine ev_int ?_ | tm_at "var" | ((with_reducible show EV _ _ _ (Expr.Call _ _ _ _) _); first | tm_at "blt" | tm_at "cl") | tm_at "ev" | tm_at "lf" | tm_at "st" | tm_at "blt")
section
variable {P : Program} {w : World} {K : PySem.W.Frag} {mg : Str → Option Value} {base : Heap} {f : Addr} {fd : FuncData}
local macro_rules | `(tactic| tm_at "var") => `(tactic| first | ((with_reducible show EV _ _ _ (Expr.Name "one" _) _); tm_at "v0") | ((with_reducible show EV _ _ _ (Expr.Name "other" _) _); tm_at "v1") | ((with_reducible show EV _ _ _ (Expr.Name "greater" _) _); tm_at "v2") | ((with_reducible show EV _ _ _ (Expr.Name "smaller" _) _); tm_at "v3") | ((with_reducible show EV _ _ _ (Expr.Name "pair" _) _); tm_at "v4") | ((with_reducible show EV _ _ _ (Expr.Name "rest" _) _); tm_at "v5"))
local macro_rules | `(tactic| tm_at "asg") => `(tactic| first | ((with_reducible show EX _ _ _ (Stmt.Assign [Expr.Name "one" _] _ _) _); tm_at "a0") | ((with_reducible show EX _ _ _ (Stmt.Assign [Expr.Name "other" _] _ _) _); tm_at "a1") | ((with_reducible show EX _ _ _ (Stmt.Assign [Expr.Name "greater" _] _ _) _); tm_at "a2") | ((with_reducible show EX _ _ _ (Stmt.Assign [Expr.Name "smaller" _] _ _) _); tm_at "a3") | ((with_reducible show EX _ _ _ (Stmt.Assign [Expr.Name "pair" _] _ _) _); tm_at "a4") | ((with_reducible show EX _ _ _ (Stmt.Assign [Expr.Name "rest" _] _ _) _); tm_at "a5"))
local macro_rules | `(tactic| tm_at "gvn") => `(tactic| first | ((with_reducible show GV _ _ _ (Expr.Name "one" _) _ _); tm_at "g0") | ((with_reducible show GV _ _ _ (Expr.Name "other" _) _ _); tm_at "g1") | ((with_reducible show GV _ _ _ (Expr.Name "greater" _) _ _); tm_at "g2") | ((with_reducible show GV _ _ _ (Expr.Name "smaller" _) _ _); tm_at "g3") | ((with_reducible show GV _ _ _ (Expr.Name "pair" _) _ _); tm_at "g4") | ((with_reducible show GV _ _ _ (Expr.Name "rest" _) _ _); tm_at "g5"))
theorem ok_common_divisor {t : Tok} (F : Fun K "common_divisor" "common_divisor" s_common_divisor f fd) (h_max : mg "max" = none) (h_min : mg "min" = none) (hL : mg "LONG" = some (.int 8192 t)) : FnOk P w K mg base CX0 1 f fd P_common_divisor (liftSp K spCd) := by
  refine fn_D F sc_common_divisor (fun ds M Q ⟨a, b, e, _⟩ => by subst e; rfl) fun cdv A outer s H EE ds M Q hr h => ?_
  have nd := sc_common_divisor.nd
  obtain ⟨a, b, rfl, ha, hb, la, lb, q⟩ := h
  refine exs_cons ?_
  repeat tm_at "d"
  refine exs_cons ?_
  generalize hg : (if b > a then b else a) = g
  generalize hs : (if b < a then b else a) = s
  have hgs : 0 ≤ g ∧ 0 ≤ s ∧ Int.gcd g s = Int.gcd a b ∧ Lim s := by
    by_cases c : b > a
    · have c2 : ¬ b < a := by omega
      rw [if_pos c] at hg
      rw [if_neg c2] at hs
      subst hg; subst hs
      exact ⟨hb, ha, Int.gcd_comm .., la⟩
    · rw [if_neg c] at hg
      by_cases c2 : b < a
      · rw [if_pos c2] at hs
        subst hg; subst hs
        exact ⟨ha, hb, rfl, lb⟩
      · rw [if_neg c2] at hs
        have e : a = b := by omega
        subst hg; subst hs; subst e
        exact ⟨ha, ha, rfl, la⟩
  obtain ⟨h1, h2, h3, h4⟩ := hgs
  refine (ex_while (fun G' M' => G' = [some (.int a), some (.int b), some (.int g), some (.int s), none, none] ∧ M' = M) (fun _ _ => 0) PassesOwn.never ⟨rfl, rfl⟩ ?_)
  rintro G' M' ⟨rfl, rfl⟩
  refine lt_gt ?_
  refine ev_bits PySem.F.plainAttrs_int ?_
  repeat tm_at "d"
  refine ev_gint hL ?_
  refine cmp_l ?_
  have hbits := bits_le h4
  refine ifDn (by omega) ?_
  refine exs_cons (ex_while (fun G' M'' => ∃ g s r, G' = [some (.int a), some (.int b), some (.int g), some (.int s), none, r] ∧ M'' = M' ∧ 0 ≤ g ∧ 0 ≤ s ∧ Int.gcd g s = Int.gcd a b)
    (fun G' _ => match G' with | [_, _, _, some (.int s), _, _] => s.toNat | _ => 0) PassesOwn.never ⟨g, s, none, rfl, rfl, h1, h2, h3⟩ ?_)
  rintro G' M'' ⟨g, s, r, rfl, rfl, hg, hs, e⟩
  repeat tm_at "d"
  refine ifN ?_ ?_
  · intro hs0
    repeat tm_at "d"
    have hlt := fmod_lt (a := g) (b := s) (by omega)
    refine ⟨⟨s, g.fmod s, some (.int (g.fmod s)), rfl, rfl, hs, hlt.1, ?_⟩, ?_⟩
    · rw [gcd_step (by omega)]; exact e
    · show (g.fmod s).toNat < s.toNat
      omega
  · intro hs0
    subst hs0
    repeat tm_at "d"
    rw [← e, gcd_zero_right' hg] at q
    exact q
end

section
variable {P : Program} {w : World} {K : PySem.W.Frag} {mg : Str → Option Value} {base : Heap} {f : Addr} {fd : FuncData}
local macro_rules | `(tactic| tm_at "var") => `(tactic| first | ((with_reducible show EV _ _ _ (Expr.Name "_law_cell_here" _) _); tm_at "v0") | ((with_reducible show EV _ _ _ (Expr.Name "_law_number_here" _) _); tm_at "v1") | ((with_reducible show EV _ _ _ (Expr.Name "_law_found" _) _); tm_at "v2") | ((with_reducible show EV _ _ _ (Expr.Name "_law_k" _) _); tm_at "v3"))
local macro_rules | `(tactic| tm_at "asg") => `(tactic| first | ((with_reducible show EX _ _ _ (Stmt.Assign [Expr.Name "_law_cell_here" _] _ _) _); tm_at "a0") | ((with_reducible show EX _ _ _ (Stmt.Assign [Expr.Name "_law_number_here" _] _ _) _); tm_at "a1") | ((with_reducible show EX _ _ _ (Stmt.Assign [Expr.Name "_law_found" _] _ _) _); tm_at "a2") | ((with_reducible show EX _ _ _ (Stmt.Assign [Expr.Name "_law_k" _] _ _) _); tm_at "a3"))
local macro_rules | `(tactic| tm_at "gvn") => `(tactic| first | ((with_reducible show GV _ _ _ (Expr.Name "_law_cell_here" _) _ _); tm_at "g0") | ((with_reducible show GV _ _ _ (Expr.Name "_law_number_here" _) _ _); tm_at "g1") | ((with_reducible show GV _ _ _ (Expr.Name "_law_found" _) _ _); tm_at "g2") | ((with_reducible show GV _ _ _ (Expr.Name "_law_k" _) _ _); tm_at "g3"))
theorem ok_l_purse (F : Fun K "_law_purse" "_law_purse" s_l_purse f fd) (h_range : mg "range" = none) (h_abs : mg "abs" = none) : FnOk P w K mg base CX0 1 f fd P_l_purse (liftSp K spPurse) := by
  refine fn_D F sc_l_purse (fun ds M Q ⟨a, e, _⟩ => by subst e; rfl) fun cdv A outer s H EE ds M Q hr h => ?_
  have nd := sc_l_purse.nd
  obtain ⟨c, rfl, hc, q⟩ := h
  have := hc.bd
  refine exs_cons ?_
  repeat tm_at "d"
  have hl := fmod_lt (a := c) (b := 2147483647) (by decide)
  generalize c.fmod 2147483647 = n0 at hl ⊢
  refine exs_cons ?_
  refine ex_for_range PassesOwn.never rfl h_range ?_
  repeat tm_at "d"
  refine ⟨_, fun i G' M' => ∃ (n g : Int) (r : Option D), G' = [some (.int c), some (.int n), some (.int g), r] ∧ M' = M ∧ 0 ≤ n ∧ n < 2147483647 ∧ 0 ≤ g ∧ Bd g (40 * i + 1), rfl, by decide, by decide, ⟨n0, 1, none, rfl, rfl, hl.1, by omega, by decide, ⟨by decide⟩⟩, ?_, ?_⟩
  · rintro i G' M' hi ⟨n, g, r, rfl, rfl, hn0, hn1, hg, bg⟩
    refine gv_name 3 nd ?_
    have hi : i < 16 := hi
    have bn : Bd n 40 := .rng (by omega) (by omega)
    have bg2 : Bd g 700 := bg.up' (by omega)
    have bi : Bd (i : Int) 40 := .rng (by omega) (by omega)
    repeat tm_at "d"
    have hl2 := fmod_lt (a := n * n + 48271 * (i : Int) * i + i + 3) (b := 2147483629) (by decide)
    generalize (n * n + 48271 * (i : Int) * i + i + 3).fmod 2147483629 = n2 at hl2 ⊢
    have bn2 : Bd n2 40 := .rng (by omega) (by omega)
    repeat tm_at "d"
    have hl3 := fmod_lt (a := n2 * n2) (b := 2147483587) (by decide)
    generalize (n2 * n2).fmod 2147483587 = n3 at hl3 ⊢
    refine ⟨n2, _, _, rfl, rfl, hl2.1, by omega, by omega, ?_⟩
    have bn3 : Bd n3 31 := .rng (by omega) (by omega)
    refine ⟨?_⟩
    have h1 := bg.h
    have h2 := bn3.h
    have e : (2 : Nat) ^ (40 * (i + 1) + 1) = 2 ^ (40 * i + 1) * 2 ^ 40 := by rw [← Nat.pow_add]; congr 1 <;> omega
    rw [e]
    have h3 : g.natAbs * 2147483587 + 2 ^ 31 ≤ 2 ^ (40 * i + 1) * 2 ^ 40 := by
      have hp : 1 ≤ 2 ^ (40 * i + 1) := Nat.pow_pos (by decide)
      omega
    have h4 : (g * 2147483587 + n3).natAbs ≤ g.natAbs * 2147483587 + n3.natAbs := by
      have := Int.natAbs_add_le (g * 2147483587) n3
      rw [Int.natAbs_mul] at this
      exact this
    omega
  · rintro G' M' ⟨n, g, r, rfl, rfl, hn0, hn1, hg, bg⟩
    refine exs_cons ?_
    repeat tm_at "d"
    refine ifD ?_ ?_
    · intro _
      repeat tm_at "d"
      intro p hp
      refine q p _ hp ⟨_, _, mset_same, ?_, hg⟩ (ext_new hp)
      rw [abs_eq]
      exact Int.fdiv_nonneg (Int.natCast_nonneg _) (by decide)
    · intro _
      repeat tm_at "d"
      intro p hp
      exact q p _ hp ⟨_, _, mset_same, by decide, hg⟩ (ext_new hp)
local macro_rules | `(tactic| tm_at "var") => `(tactic| first | ((with_reducible show EV _ _ _ (Expr.Name "_law_purse_here" _) _); tm_at "v0") | ((with_reducible show EV _ _ _ (Expr.Name "_law_many" _) _); tm_at "v1") | ((with_reducible show EV _ _ _ (Expr.Name "_law_at" _) _); tm_at "v2") | ((with_reducible show EV _ _ _ (Expr.Name "_law_found" _) _); tm_at "v3"))
local macro_rules | `(tactic| tm_at "asg") => `(tactic| first | ((with_reducible show EX _ _ _ (Stmt.Assign [Expr.Name "_law_purse_here" _] _ _) _); tm_at "a0") | ((with_reducible show EX _ _ _ (Stmt.Assign [Expr.Name "_law_many" _] _ _) _); tm_at "a1") | ((with_reducible show EX _ _ _ (Stmt.Assign [Expr.Name "_law_at" _] _ _) _); tm_at "a2") | ((with_reducible show EX _ _ _ (Stmt.Assign [Expr.Name "_law_found" _] _ _) _); tm_at "a3"))
local macro_rules | `(tactic| tm_at "gvn") => `(tactic| first | ((with_reducible show GV _ _ _ (Expr.Name "_law_purse_here" _) _ _); tm_at "g0") | ((with_reducible show GV _ _ _ (Expr.Name "_law_many" _) _ _); tm_at "g1") | ((with_reducible show GV _ _ _ (Expr.Name "_law_at" _) _ _); tm_at "g2") | ((with_reducible show GV _ _ _ (Expr.Name "_law_found" _) _ _); tm_at "g3"))
theorem ok_l_take (F : Fun K "_law_take" "_law_take" s_l_take f fd) (h_int : mg "int" = none) : FnOk P w K mg base CX0 1 f fd P_l_take (liftSp K spTake) := by
  refine fn_D F sc_l_take (fun ds M Q ⟨a, b, e, _⟩ => by subst e; rfl) fun cdv A outer s H EE ds M Q hr h => ?_
  have nd := sc_l_take.nd
  obtain ⟨p, m, rfl, ⟨x, y, hp, hx, hy⟩, hm, hl, q⟩ := h
  have dok : ∀ z, CDivB z m := fun z => Lim.div (by omega) hl
  have key : ∀ (n : Int) (v : Int) (j : Nat), ixN 2 n = some j → atI [D.int x, D.int y] n = some (.int v) → 0 ≤ v → (∀ r M', 0 ≤ r → r < m → M' = mset M p (.lst ([D.int x, D.int y].set j (.int (v.fdiv m)))) → Q (.int r) M') → 
      EXs (cxOf CX0 P w K mg base N_l_take "_law_take" (defScope s_l_take) f cdv A outer s H EE).nox [some (.ref p), some (.int m), some (.int n), none] M ((defBody s_l_take).drop 1) { nx := fun _ M' => Q .non M', rt := Q } := by
    intro n v j hj hv hv0 q
    refine exs_cons ?_
    repeat tm_at "d"
    refine ix_al hp hv ?_
    have d1 := dok v
    repeat tm_at "d"
    refine ix_al hp hv ?_
    repeat tm_at "d"
    refine set_ll hp hj ?_
    repeat tm_at "d"
    have hlt := fmod_lt (a := v) (b := m) hm
    exact q _ _ hlt.1 hlt.2 rfl
  refine exs_cons ?_
  repeat tm_at "d"
  refine ix_al hp rfl ?_
  repeat tm_at "d"
  refine Or.inr ⟨_, rfl, ?_⟩
  by_cases c : x = 0
  · rw [decide_eq_true c]
    refine key 1 y 1 rfl rfl hy fun r M' h1 h2 e => ?_
    subst e
    exact q r _ h1 h2 ⟨_, _, mset_same, hx, Int.fdiv_nonneg hy (by omega)⟩ (Kp.put (by simp))
  · rw [decide_eq_false c]
    refine key 0 x 0 rfl rfl hx fun r M' h1 h2 e => ?_
    subst e
    exact q r _ h1 h2 ⟨_, _, mset_same, Int.fdiv_nonneg hx (by omega), hy⟩ (Kp.put (by simp))
end

section
variable {P : Program} {w : World} {K : PySem.W.Frag} {mg : Str → Option Value} {base : Heap} {f : Addr} {fd : FuncData}
local macro_rules | `(tactic| tm_at "var") => `(tactic| first | ((with_reducible show EV _ _ _ (Expr.Name "_law_script" _) _); tm_at "v0") | ((with_reducible show EV _ _ _ (Expr.Name "_law_k" _) _); tm_at "v1"))
local macro_rules | `(tactic| tm_at "asg") => `(tactic| first | ((with_reducible show EX _ _ _ (Stmt.Assign [Expr.Name "_law_script" _] _ _) _); tm_at "a0") | ((with_reducible show EX _ _ _ (Stmt.Assign [Expr.Name "_law_k" _] _ _) _); tm_at "a1"))
local macro_rules | `(tactic| tm_at "gvn") => `(tactic| first | ((with_reducible show GV _ _ _ (Expr.Name "_law_script" _) _ _); tm_at "g0") | ((with_reducible show GV _ _ _ (Expr.Name "_law_k" _) _ _); tm_at "g1"))
theorem ok_l_cell (F : Fun K "_law_cell" "_law_cell" s_l_cell f fd) (h_len : mg "len" = none) : FnOk P w K mg base CX0 1 f fd P_l_cell (liftSp K spCell) := by
  refine fn_D F sc_l_cell (fun ds M Q ⟨a, b, c, e, _⟩ => by subst e; rfl) fun cdv A outer s H EE ds M Q hr h => ?_
  have nd := sc_l_cell.nd
  obtain ⟨l, ns, k, rfl, hl, hc, h63, hk, q⟩ := h
  refine exs_cons ?_
  repeat tm_at "d"
  refine ⟨_, _, rfl, Or.inr ⟨_, hl, rfl⟩, ?_⟩
  repeat tm_at "d"
  rw [List.length_map]
  refine ifD ?_ ?_
  · intro hlt
    repeat tm_at "d"
    obtain ⟨k', rfl⟩ := Int.eq_ofNat_of_zero_le hk
    have hk' : k' < ns.length := by omega
    refine ix_ar (d := .int ns[k']) hl (atI_nat (by rw [List.getElem?_map, List.getElem?_eq_getElem hk'] <;> rfl)) ?_
    exact q _ (hc _ (List.getElem_mem hk'))
  · intro _
    repeat tm_at "d"
    exact q _ Cell.of
local macro_rules | `(tactic| tm_at "var") => `(tactic| first | ((with_reducible show EV _ _ _ (Expr.Name "_law_purse_here" _) _); tm_at "v0"))
local macro_rules | `(tactic| tm_at "asg") => `(tactic| first | ((with_reducible show EX _ _ _ (Stmt.Assign [Expr.Name "_law_purse_here" _] _ _) _); tm_at "a0"))
local macro_rules | `(tactic| tm_at "gvn") => `(tactic| first | ((with_reducible show GV _ _ _ (Expr.Name "_law_purse_here" _) _ _); tm_at "g0"))
theorem ok_l_number (F : Fun K "_law_number" "_law_number" s_l_number f fd) (C_l_take : Cal P w K mg base 1 "_law_take" spTake) : FnOk P w K mg base CX0 2 f fd P_l_number (liftSp K spNumber) := by
  refine fn_D F sc_l_number (fun ds M Q ⟨a, e, _⟩ => by subst e; rfl) fun cdv A outer s H EE ds M Q hr h => ?_
  have nd := sc_l_number.nd
  obtain ⟨p, rfl, pu, q⟩ := h
  refine exs_cons ?_
  repeat tm_at "d"
  refine ⟨_, _, rfl, pu, by decide, lim, fun r M1 h1 h2 pu1 k1 => ?_⟩
  repeat tm_at "d"
  refine ifD ?_ ?_
  · intro _
    repeat tm_at "d"
    intro l hl
    repeat tm_at "d"
    refine ⟨_, _, rfl, pu1.ext (ext_new hl), by decide, lim, fun r2 M2 h3 h4 pu2 k2 => ?_⟩
    have hlp : l ≠ p := (pu1.ne hl).symm
    have hl2 : M2 l = some (.lst [.int 0, .int 1, .int (-1), .int 2, .int (-3), .int 5, .int 1]) := k2.at mset_same (by simp [hlp])
    have hb : ∃ b : Int, atI [D.int 0, .int 1, .int (-1), .int 2, .int (-3), .int 5, .int 1] r2 = some (.int b) ∧ B 64 b := by
      have : r2 = 0 ∨ r2 = 1 ∨ r2 = 2 ∨ r2 = 3 ∨ r2 = 4 ∨ r2 = 5 ∨ r2 = 6 := by omega
      rcases this with rfl | rfl | rfl | rfl | rfl | rfl | rfl
      · exact ⟨0, rfl, by unfold B; decide⟩
      · exact ⟨1, rfl, by unfold B; decide⟩
      · exact ⟨-1, rfl, by unfold B; decide⟩
      · exact ⟨2, rfl, by unfold B; decide⟩
      · exact ⟨-3, rfl, by unfold B; decide⟩
      · exact ⟨5, rfl, by unfold B; decide⟩
      · exact ⟨1, rfl, by unfold B; decide⟩
    obtain ⟨b, eb, lb⟩ := hb
    repeat tm_at "d"
    refine ix_al hl2 eb ?_
    exact q b M2 lb pu2 (k1.trans ((Kp.new hl).trans k2))
  · intro _
    repeat tm_at "d"
    refine ⟨_, _, rfl, pu1, by decide +kernel, lim, fun r2 M2 h3 h4 pu2 k2 => ?_⟩
    repeat tm_at "d"
    have bd : Bd (r2 - 10000000000000000000) 64 := .rng (by omega) (by omega)
    exact q _ M2 bd.b pu2 (k1.trans k2)
local macro_rules | `(tactic| tm_at "var") => `(tactic| first | ((with_reducible show EV _ _ _ (Expr.Name "_law_purse_here" _) _); tm_at "v0") | ((with_reducible show EV _ _ _ (Expr.Name "_law_names_here" _) _); tm_at "v1") | ((with_reducible show EV _ _ _ (Expr.Name "_law_found" _) _); tm_at "v2") | ((with_reducible show EV _ _ _ (Expr.Name "_law_name" _) _); tm_at "v3") | ((with_reducible show EV _ _ _ (Expr.Name "_law_weight" _) _); tm_at "v4"))
local macro_rules | `(tactic| tm_at "asg") => `(tactic| first | ((with_reducible show EX _ _ _ (Stmt.Assign [Expr.Name "_law_purse_here" _] _ _) _); tm_at "a0") | ((with_reducible show EX _ _ _ (Stmt.Assign [Expr.Name "_law_names_here" _] _ _) _); tm_at "a1") | ((with_reducible show EX _ _ _ (Stmt.Assign [Expr.Name "_law_found" _] _ _) _); tm_at "a2") | ((with_reducible show EX _ _ _ (Stmt.Assign [Expr.Name "_law_name" _] _ _) _); tm_at "a3") | ((with_reducible show EX _ _ _ (Stmt.Assign [Expr.Name "_law_weight" _] _ _) _); tm_at "a4"))
local macro_rules | `(tactic| tm_at "gvn") => `(tactic| first | ((with_reducible show GV _ _ _ (Expr.Name "_law_purse_here" _) _ _); tm_at "g0") | ((with_reducible show GV _ _ _ (Expr.Name "_law_names_here" _) _ _); tm_at "g1") | ((with_reducible show GV _ _ _ (Expr.Name "_law_found" _) _ _); tm_at "g2") | ((with_reducible show GV _ _ _ (Expr.Name "_law_name" _) _ _); tm_at "g3") | ((with_reducible show GV _ _ _ (Expr.Name "_law_weight" _) _ _); tm_at "g4"))
theorem ok_l_terms (F : Fun K "_law_terms" "_law_terms" s_l_terms f fd) (h_tuple : mg "tuple" = none) (C_l_number : Cal P w K mg base 2 "_law_number" spNumber) : FnOk P w K mg base CX0 3 f fd P_l_terms (liftSp K spTerms) := by
  refine fn_D F sc_l_terms (fun ds M Q ⟨a, b, e, _⟩ => by subst e; rfl) fun cdv A outer s H EE ds M Q hr h => ?_
  have nd := sc_l_terms.nd
  obtain ⟨p, ss, rfl, pu, hlen, q⟩ := h
  refine exs_cons ?_
  repeat tm_at "d"
  intro l hl
  have hlp : l ≠ p := (pu.ne hl).symm
  refine exs_cons (ex_for_tup PassesOwn.never rfl ?_)
  repeat tm_at "d"
  refine ⟨ss.map D.str, fun i G' M' => ∃ (ts : List (Str × Int)) (r3 r4 : Option D), G' = [some (.ref p), some (nms ss), some (.ref l), r3, r4] ∧ M' l = some (.lst (ts.map tD)) ∧ Terms (ss.take i) ts ∧ Pu M' p ∧ Kp [p] M M', rfl,
    ⟨[], none, none, rfl, mset_same, ⟨by simp, by simp⟩, pu.ext (ext_new hl), Kp.new hl⟩, ?_, ?_⟩
  · rintro i d G' M' hd ⟨ts, r3, r4, rfl, ml, ht, pu', k'⟩
    rw [List.getElem?_map] at hd
    cases hs : ss[i]? with
    | none => rw [hs] at hd; cases hd
    | some x =>
      rw [hs] at hd
      have hd : D.str x = d := by simpa using hd
      subst hd
      have hil : i < ss.length := (List.getElem?_eq_some_iff.mp hs).1
      have htk : ss.take (i + 1) = ss.take i ++ [x] := by rw [List.take_add_one, hs]; rfl
      have hlen2 : ts.length ≤ 3 := by
        have := ht.len
        rw [List.length_take] at this; omega
      repeat tm_at "d"
      refine ⟨_, rfl, pu', fun n M2 ln pu2 k2 => ?_⟩
      have ml2 : M2 l = some (.lst (ts.map tD)) := k2.at ml (by simp [hlp])
      repeat tm_at "d"
      refine ifN ?_ ?_
      · intro hn
        repeat tm_at "d"
        refine ⟨l, rfl, ⟨_, ml2⟩, ?_⟩
        repeat tm_at "d"
        refine ⟨_, ml2, small1000 (by rw [List.length_map]; omega), ?_⟩
        refine ⟨ts ++ [(x, n)], _, _, rfl, ?_, ⟨?_, ?_⟩, ?_, ?_⟩
        · rw [mset_same, List.map_append]; rfl
        · rw [htk, List.map_append]
          exact List.Sublist.append ht.sub (List.Sublist.refl _)
        · intro t hmem
          rcases List.mem_append.mp hmem with hmem | hmem
          · exact ht.wt t hmem
          · rw [List.mem_singleton.mp hmem]; exact ⟨hn, ln⟩
        · obtain ⟨a, b, e, ha, hb⟩ := pu2
          exact ⟨a, b, by rw [mset_ne hlp.symm]; exact e, ha, hb⟩
        · intro b o hb e
          rw [mset_ne (ne_fresh e hl)]
          exact (k'.trans k2) b o hb e
      · intro hn
        refine exs_nil ?_
        refine ⟨ts, _, _, rfl, ml2, ⟨?_, ht.wt⟩, pu2, k'.trans k2⟩
        rw [htk]
        exact ht.sub.trans (List.sublist_append_left _ _)
  · rintro G' M' ⟨ts, r3, r4, rfl, ml, ht, pu', k'⟩
    rw [List.length_map, List.take_length] at ht
    repeat tm_at "d"
    refine ⟨_, rfl, _, ml, ?_⟩
    exact q ts M' ht pu' k'
end

section
variable {P : Program} {w : World} {K : PySem.W.Frag} {mg : Str → Option Value} {base : Heap} {f : Addr} {fd : FuncData}
local macro_rules | `(tactic| tm_at "var") => `(tactic| first | ((with_reducible show EV _ _ _ (Expr.Name "_law_purse_here" _) _); tm_at "v0") | ((with_reducible show EV _ _ _ (Expr.Name "_law_names_here" _) _); tm_at "v1") | ((with_reducible show EV _ _ _ (Expr.Name "_law_by" _) _); tm_at "v2") | ((with_reducible show EV _ _ _ (Expr.Name "_law_terms_here" _) _); tm_at "v3"))
local macro_rules | `(tactic| tm_at "asg") => `(tactic| first | ((with_reducible show EX _ _ _ (Stmt.Assign [Expr.Name "_law_purse_here" _] _ _) _); tm_at "a0") | ((with_reducible show EX _ _ _ (Stmt.Assign [Expr.Name "_law_names_here" _] _ _) _); tm_at "a1") | ((with_reducible show EX _ _ _ (Stmt.Assign [Expr.Name "_law_by" _] _ _) _); tm_at "a2") | ((with_reducible show EX _ _ _ (Stmt.Assign [Expr.Name "_law_terms_here" _] _ _) _); tm_at "a3"))
local macro_rules | `(tactic| tm_at "gvn") => `(tactic| first | ((with_reducible show GV _ _ _ (Expr.Name "_law_purse_here" _) _ _); tm_at "g0") | ((with_reducible show GV _ _ _ (Expr.Name "_law_names_here" _) _ _); tm_at "g1") | ((with_reducible show GV _ _ _ (Expr.Name "_law_by" _) _ _); tm_at "g2") | ((with_reducible show GV _ _ _ (Expr.Name "_law_terms_here" _) _ _); tm_at "g3"))
theorem ok_l_sum (F : Fun K "_law_sum" "_law_sum" s_l_sum f fd) (C_l_take : Cal P w K mg base 1 "_law_take" spTake) (C_l_terms : Cal P w K mg base 3 "_law_terms" spTerms) (C_l_number : Cal P w K mg base 2 "_law_number" spNumber) : FnOk P w K mg base CX0 4 f fd P_l_sum (liftSp K spSum) := by
  refine fn_D F sc_l_sum (fun ds M Q ⟨a, b, e, _⟩ => by subst e; rfl) fun cdv A outer s H EE ds M Q hr h => ?_
  have nd := sc_l_sum.nd
  obtain ⟨p, ss, rfl, pu, hlen, q⟩ := h
  refine exs_cons ?_
  repeat tm_at "d"
  intro l hl
  repeat tm_at "d"
  refine ⟨_, _, rfl, pu.ext (ext_new hl), by decide, lim, fun r M1 h1 h2 pu1 k1 => ?_⟩
  have hlp : l ≠ p := (pu.ne hl).symm
  have hl1 : M1 l = some (.lst [.int 1, .int 1, .int 2, .int 1, .int 3, .int 0]) := k1.at mset_same (by simp [hlp])
  have hb : ∃ b : Int, atI [D.int 1, .int 1, .int 2, .int 1, .int 3, .int 0] r = some (.int b) ∧ 0 ≤ b ∧ b ≤ 3 := by
    have : r = 0 ∨ r = 1 ∨ r = 2 ∨ r = 3 ∨ r = 4 ∨ r = 5 := by omega
    rcases this with rfl | rfl | rfl | rfl | rfl | rfl
    · exact ⟨1, rfl, by decide, by decide⟩
    · exact ⟨1, rfl, by decide, by decide⟩
    · exact ⟨2, rfl, by decide, by decide⟩
    · exact ⟨1, rfl, by decide, by decide⟩
    · exact ⟨3, rfl, by decide, by decide⟩
    · exact ⟨0, rfl, by decide, by decide⟩
  obtain ⟨b, eb, hb0, hb3⟩ := hb
  have k2 : Kp [p] M M1 := (Kp.new hl).trans k1
  repeat tm_at "d"
  refine ix_al hl1 eb ?_
  refine exs_join (fun G' M' => ∃ b : Int, G' = [some (.ref p), some (nms ss), some (.int b), none] ∧ Kp [p] M M' ∧ Pu M' p ∧ 0 < b ∧ B 64 b) ?_ ?_
  · repeat tm_at "d"
    refine ifD ?_ ?_
    · intro _
      repeat tm_at "d"
      refine ⟨_, _, rfl, pu1, by decide +kernel, lim, fun r2 M2 h3 h4 pu2 k3 => ?_⟩
      repeat tm_at "d"
      have bd : Bd (1 + r2) 64 := .rng (by omega) (by omega)
      exact ⟨_, rfl, k2.trans k3, pu2, by omega, bd.b⟩
    · intro _
      refine exs_nil ?_
      have bd : Bd b 64 := .rng (by omega) (by omega)
      exact ⟨_, rfl, k2, pu1, by omega, bd.b⟩
  rintro G' M' ⟨b, rfl, k, pu, hb, lb⟩
  repeat tm_at "d"
  refine ⟨_, _, rfl, pu, hlen, fun ts M2 ht pu2 k3 => ?_⟩
  repeat tm_at "d"
  refine ⟨_, rfl, pu2, fun n M3 ln pu3 k4 => ?_⟩
  repeat tm_at "d"
  exact q ts n b M3 ht ln hb lb pu3 (k.trans (k3.trans k4))
end

theorem letters_at (r : Int) (h0 : 0 ≤ r) (h1 : r < 26) : atI (Str.cps "abcdefghijklmnopqrstuvwxyz").toList r = some (97 + r.toNat) := by
  obtain ⟨k, rfl⟩ := Int.eq_ofNat_of_zero_le h0
  refine atI_nat ?_
  have hk : k < 26 := by omega
  have : ∀ k : Fin 26, (Str.cps "abcdefghijklmnopqrstuvwxyz").toList[k.val]? = some (97 + k.val) := by decide +kernel
  exact this ⟨k, hk⟩
def nthL (c : Int) (k : Nat) : Str := ⟨#[97 + ((c.fmod 26 + 7 * (k : Int)).fmod 26).toNat]⟩
def nameF (c : Int) : D → D
  | .int k => .str (nthL c k.toNat)
  | _ => .non
theorem nthL_letter (c : Int) (k : Nat) : Letter (nthL c k) := by
  have := fmod_lt (a := c.fmod 26 + 7 * (k : Int)) (b := 26) (by decide)
  exact ⟨_, by omega, by omega, rfl⟩
theorem nthL_inj {c : Int} {i j : Nat} (hi : i < 3) (hj : j < 3) (h : nthL c i = nthL c j) : i = j := by
  have h1 := fmod_lt (a := c.fmod 26 + 7 * (i : Int)) (b := 26) (by decide)
  have h2 := fmod_lt (a := c.fmod 26 + 7 * (j : Int)) (b := 26) (by decide)
  have e : 97 + ((c.fmod 26 + 7 * (i : Int)).fmod 26).toNat = 97 + ((c.fmod 26 + 7 * (j : Int)).fmod 26).toNat := by
    have := congrArg (fun s : Str => s.cps[0]?) h
    simpa [nthL] using this
  have e2 : (c.fmod 26 + 7 * (i : Int)).fmod 26 = (c.fmod 26 + 7 * (j : Int)).fmod 26 := by omega
  generalize c.fmod 26 = a at *
  rw [Int.fmod_eq_emod_of_nonneg (a + 7 * (i : Int)) (by decide), Int.fmod_eq_emod_of_nonneg (a + 7 * (j : Int)) (by decide)] at e2
  omega
section
variable {P : Program} {w : World} {K : PySem.W.Frag} {mg : Str → Option Value} {base : Heap} {f : Addr} {fd : FuncData}
local macro_rules | `(tactic| tm_at "var") => `(tactic| first | ((with_reducible show EV _ _ _ (Expr.Name "_law_cell_here" _) _); tm_at "v0") | ((with_reducible show EV _ _ _ (Expr.Name "_law_letters" _) _); tm_at "v1"))
local macro_rules | `(tactic| tm_at "asg") => `(tactic| first | ((with_reducible show EX _ _ _ (Stmt.Assign [Expr.Name "_law_cell_here" _] _ _) _); tm_at "a0") | ((with_reducible show EX _ _ _ (Stmt.Assign [Expr.Name "_law_letters" _] _ _) _); tm_at "a1"))
local macro_rules | `(tactic| tm_at "gvn") => `(tactic| first | ((with_reducible show GV _ _ _ (Expr.Name "_law_cell_here" _) _ _); tm_at "g0") | ((with_reducible show GV _ _ _ (Expr.Name "_law_letters" _) _ _); tm_at "g1"))
theorem ok_l_names (F : Fun K "_law_names" "_law_names" s_l_names f fd) (h_tuple : mg "tuple" = none) (h_sorted : mg "sorted" = none) (h_range : mg "range" = none) : FnOk P w K mg base CX0 1 f fd P_l_names (liftSp K spNames) := by
  refine fn_D F sc_l_names (fun ds M Q ⟨a, e, _⟩ => by subst e; rfl) fun cdv A outer s H EE ds M Q hr h => ?_
  have nd := sc_l_names.nd
  obtain ⟨c, rfl, hc, q⟩ := h
  have bc := hc.bd
  refine exs_cons ?_
  repeat tm_at "d"
  with_reducible refine' ev_comp_range (own := ["_law_k"]) (js := [1, 0]) (N := ["_law_k", "_law_letters", "_law_cell_here"]) ?T ?xe ?ca ?hm (nameF c) (fun _ => true) ?_ ?hg ?hse ?hs
  case T => exact compOk_freeB (fs := ["_law_letters", "_law_cell_here"]) rfl (by decide +kernel) (by decide +kernel) rfl rfl rfl rfl rfl
  case xe => rfl
  case ca => rfl
  case hm => exact h_range
  case hg => rfl
  case hse => rfl
  case hs => (intro _; rfl)
  repeat tm_at "d"
  have h3 := fmod_lt (a := (c.fdiv 26)) (b := 3) (by decide)
  generalize hm : (c.fdiv 26).fmod 3 = m at h3 ⊢
  refine ⟨by omega, by omega, ?_, ?_⟩
  · rintro Y ⟨C', s', H', fp, rfl⟩ M' hM i hi
    refine gv_name 0 (by show (["_law_k", "_law_letters", "_law_cell_here"] : List Str).Nodup; decide +kernel) ?_
    refine ⟨rfl, fun i d e => ?_, tvs_nil ⟨rfl, rfl⟩, fun _ => ?_⟩
    · rcases i with _ | i
      · simp [compG] at e
      · exact e
    · have hi' : (i : Int) < 3 := by omega
      have bi : Bd (i : Int) 40 := .rng (by omega) (by omega)
      repeat first | (refine ev_var 0 ?_) | (refine ev_var 1 ?_) | (refine ev_var 2 ?_) | tm_at "d"
      have hr26 := fmod_lt (a := c.fmod 26 + 7 * (i : Int)) (b := 26) (by decide)
      refine ix_as (by decide) (letters_at _ hr26.1 hr26.2) ?_
      exact ⟨rfl, rfl⟩
  · intro p0 hp0
    have hmap : ((((List.range (1 + m).toNat).map fun i : Nat => D.int i).filter fun _ => true).map (nameF c)) = ((List.range (1 + m).toNat).map (nthL c)).map D.str := by
      rw [List.filter_eq_self.mpr (by simp), List.map_map, List.map_map]
      rfl
    rw [hmap]
    have hnd : ((List.range (1 + m).toNat).map (nthL c)).Nodup := by
      have hb : (1 + m).toNat ≤ 3 := by omega
      unfold List.Nodup
      rw [List.pairwise_map]
      refine List.Pairwise.imp_of_mem (R := fun a b => a ≠ b) (fun {a b} ha hb' hne e => hne (nthL_inj (c := c) (by have := List.mem_range.mp ha; omega) (by have := List.mem_range.mp hb'; omega) e)) List.nodup_range
    generalize hss : (List.range (1 + m).toNat).map (nthL c) = ss at hnd
    have hsl : ss.length = (1 + m).toNat := by rw [← hss, List.length_map, List.length_range]
    repeat tm_at "d"
    refine ⟨p0, ss, rfl, mset_same, by omega, fun p1 ss' hp1 hperm hsort => ?_⟩
    repeat tm_at "d"
    refine ⟨_, rfl, _, mset_same, ?_⟩
    refine q ss' _ ⟨by rw [hperm.length_eq]; omega, by rw [hperm.length_eq]; omega, hperm.nodup_iff.mpr hnd, fun s hs => ?_⟩ (Ext.trans (ext_new hp0) (ext_new hp1))
    have := hperm.mem_iff.mp hs
    rw [← hss] at this
    obtain ⟨k, _, rfl⟩ := List.mem_map.mp this
    exact nthL_letter c k
end

section
variable {P : Program} {w : World} {K : PySem.W.Frag} {mg : Str → Option Value} {base : Heap} {f : Addr} {fd : FuncData}
local macro_rules | `(tactic| tm_at "var") => `(tactic| first | ((with_reducible show EV _ _ _ (Expr.Name "_law_purse_here" _) _); tm_at "v0") | ((with_reducible show EV _ _ _ (Expr.Name "_law_names_here" _) _); tm_at "v1") | ((with_reducible show EV _ _ _ (Expr.Name "_law_word" _) _); tm_at "v2") | ((with_reducible show EV _ _ _ (Expr.Name "_law_terms_here" _) _); tm_at "v3"))
local macro_rules | `(tactic| tm_at "asg") => `(tactic| first | ((with_reducible show EX _ _ _ (Stmt.Assign [Expr.Name "_law_purse_here" _] _ _) _); tm_at "a0") | ((with_reducible show EX _ _ _ (Stmt.Assign [Expr.Name "_law_names_here" _] _ _) _); tm_at "a1") | ((with_reducible show EX _ _ _ (Stmt.Assign [Expr.Name "_law_word" _] _ _) _); tm_at "a2") | ((with_reducible show EX _ _ _ (Stmt.Assign [Expr.Name "_law_terms_here" _] _ _) _); tm_at "a3"))
local macro_rules | `(tactic| tm_at "gvn") => `(tactic| first | ((with_reducible show GV _ _ _ (Expr.Name "_law_purse_here" _) _ _); tm_at "g0") | ((with_reducible show GV _ _ _ (Expr.Name "_law_names_here" _) _ _); tm_at "g1") | ((with_reducible show GV _ _ _ (Expr.Name "_law_word" _) _ _); tm_at "g2") | ((with_reducible show GV _ _ _ (Expr.Name "_law_terms_here" _) _ _); tm_at "g3"))
theorem ok_l_row (F : Fun K "_law_row" "_law_row" s_l_row f fd) (C_l_take : Cal P w K mg base 1 "_law_take" spTake) (C_l_terms : Cal P w K mg base 3 "_law_terms" spTerms) (C_l_number : Cal P w K mg base 2 "_law_number" spNumber) : FnOk P w K mg base CX0 4 f fd P_l_row (liftSp K spRow) := by
  refine fn_D F sc_l_row (fun ds M Q ⟨a, b, e, _⟩ => by subst e; rfl) fun cdv A outer s H EE ds M Q hr h => ?_
  have nd := sc_l_row.nd
  obtain ⟨p, ss, rfl, pu, hlen, q⟩ := h
  refine exs_cons ?_
  repeat tm_at "d"
  intro l hl
  repeat tm_at "d"
  refine ⟨_, _, rfl, pu.ext (ext_new hl), by decide, lim, fun r M1 h1 h2 pu1 k1 => ?_⟩
  have hlp : l ≠ p := (pu.ne hl).symm
  have hl1 : M1 l = some (.lst [.str "least", .str "more"]) := k1.at mset_same (by simp [hlp])
  have hb : ∃ k : Bool, atI [D.str "least", .str "more"] r = some (.str (word k)) := by
    have : r = 0 ∨ r = 1 := by omega
    rcases this with rfl | rfl
    · exact ⟨true, rfl⟩
    · exact ⟨false, rfl⟩
  obtain ⟨k, eb⟩ := hb
  have k2 : Kp [p] M M1 := (Kp.new hl).trans k1
  repeat tm_at "d"
  refine ix_al hl1 eb ?_
  repeat tm_at "d"
  refine ⟨_, _, rfl, pu1, hlen, fun ts M2 ht pu2 k3 => ?_⟩
  repeat tm_at "d"
  refine ⟨_, rfl, pu2, fun n M3 ln pu3 k4 => ?_⟩
  repeat tm_at "d"
  exact q k ts n M3 ht ln pu3 (k2.trans (k3.trans k4))
end

section
variable {P : Program} {w : World} {K : PySem.W.Frag} {mg : Str → Option Value} {base : Heap} {f : Addr} {fd : FuncData}
local macro_rules | `(tactic| tm_at "var") => `(tactic| first | ((with_reducible show EV _ _ _ (Expr.Name "one" _) _); tm_at "v0") | ((with_reducible show EV _ _ _ (Expr.Name "other" _) _); tm_at "v1") | ((with_reducible show EV _ _ _ (Expr.Name "shared" _) _); tm_at "v2") | ((with_reducible show EV _ _ _ (Expr.Name "left" _) _); tm_at "v3") | ((with_reducible show EV _ _ _ (Expr.Name "top" _) _); tm_at "v4") | ((with_reducible show EV _ _ _ (Expr.Name "divisor" _) _); tm_at "v5"))
local macro_rules | `(tactic| tm_at "asg") => `(tactic| first | ((with_reducible show EX _ _ _ (Stmt.Assign [Expr.Name "one" _] _ _) _); tm_at "a0") | ((with_reducible show EX _ _ _ (Stmt.Assign [Expr.Name "other" _] _ _) _); tm_at "a1") | ((with_reducible show EX _ _ _ (Stmt.Assign [Expr.Name "shared" _] _ _) _); tm_at "a2") | ((with_reducible show EX _ _ _ (Stmt.Assign [Expr.Name "left" _] _ _) _); tm_at "a3") | ((with_reducible show EX _ _ _ (Stmt.Assign [Expr.Name "top" _] _ _) _); tm_at "a4") | ((with_reducible show EX _ _ _ (Stmt.Assign [Expr.Name "divisor" _] _ _) _); tm_at "a5"))
local macro_rules | `(tactic| tm_at "gvn") => `(tactic| first | ((with_reducible show GV _ _ _ (Expr.Name "one" _) _ _); tm_at "g0") | ((with_reducible show GV _ _ _ (Expr.Name "other" _) _ _); tm_at "g1") | ((with_reducible show GV _ _ _ (Expr.Name "shared" _) _ _); tm_at "g2") | ((with_reducible show GV _ _ _ (Expr.Name "left" _) _ _); tm_at "g3") | ((with_reducible show GV _ _ _ (Expr.Name "top" _) _ _); tm_at "g4") | ((with_reducible show GV _ _ _ (Expr.Name "divisor" _) _ _); tm_at "g5"))
theorem ok_plus (F : Fun K "plus" "plus" s_plus f fd) (h_abs : mg "abs" = none) (C_common_divisor : Cal P w K mg base 1 "common_divisor" spCd) : FnOk P w K mg base CX0 2 f fd P_plus (liftSp K (spArL gPlus)) := by
  refine fn_D F sc_plus (fun ds M Q ⟨a, b, c, d, e, _⟩ => by subst e; rfl) fun cdv A outer s H EE ds M Q hr h => ?_
  have nd := sc_plus.nd
  obtain ⟨a, b, c, d, rfl, hb, hd, ga, gc, la, lb, lc, ld, q⟩ := h
  have i1 := Bd.of la
  have i2 := Bd.of lb
  have i3 := Bd.of lc
  have i4 := Bd.of ld
  refine exs_cons ?_
  repeat tm_at "d"
  refine ⟨_, _, rfl, by omega, by omega, lim, lim, ?_⟩
  generalize es : ((Int.gcd b d : Nat) : Int) = sh
  generalize el : b.fdiv sh = lf
  generalize et : a * d.fdiv sh + c * lf = t
  generalize eg : ((Int.gcd t sh : Nat) : Int) = g
  obtain ⟨hs, hg, lsb, lgs, r1, r2⟩ := plus_is hb hd ga gc es.symm el.symm et.symm eg.symm
  have i5 : Bd sh 3000 := Bd.le lsb i2
  have i6 : Bd g 3000 := Bd.le lgs i5
  have i7 : Bd lf 3000 := by rw [← el]; infer_instance
  have i8 : Bd t 6001 := by rw [← et]; exact Bd.up
  repeat tm_at "d"
  rw [el]
  repeat tm_at "d"
  rw [et]
  repeat tm_at "d"
  rw [abs_eq]
  refine ⟨_, _, rfl, Int.natCast_nonneg _, by omega, Lim.le (by rw [Int.natAbs_natCast]; exact Nat.le_refl _) (lim (x := t)), lim, ?_⟩
  rw [gcd_abs, eg]
  repeat tm_at "d"
  simp only [gPlus] at q
  rw [r1, r2] at q
  exact q
local macro_rules | `(tactic| tm_at "var") => `(tactic| first | ((with_reducible show EV _ _ _ (Expr.Name "one" _) _); tm_at "v0") | ((with_reducible show EV _ _ _ (Expr.Name "other" _) _); tm_at "v1") | ((with_reducible show EV _ _ _ (Expr.Name "across" _) _); tm_at "v2") | ((with_reducible show EV _ _ _ (Expr.Name "back" _) _); tm_at "v3"))
local macro_rules | `(tactic| tm_at "asg") => `(tactic| first | ((with_reducible show EX _ _ _ (Stmt.Assign [Expr.Name "one" _] _ _) _); tm_at "a0") | ((with_reducible show EX _ _ _ (Stmt.Assign [Expr.Name "other" _] _ _) _); tm_at "a1") | ((with_reducible show EX _ _ _ (Stmt.Assign [Expr.Name "across" _] _ _) _); tm_at "a2") | ((with_reducible show EX _ _ _ (Stmt.Assign [Expr.Name "back" _] _ _) _); tm_at "a3"))
local macro_rules | `(tactic| tm_at "gvn") => `(tactic| first | ((with_reducible show GV _ _ _ (Expr.Name "one" _) _ _); tm_at "g0") | ((with_reducible show GV _ _ _ (Expr.Name "other" _) _ _); tm_at "g1") | ((with_reducible show GV _ _ _ (Expr.Name "across" _) _ _); tm_at "g2") | ((with_reducible show GV _ _ _ (Expr.Name "back" _) _ _); tm_at "g3"))
theorem ok_times (F : Fun K "times" "times" s_times f fd) (h_abs : mg "abs" = none) (C_common_divisor : Cal P w K mg base 1 "common_divisor" spCd) : FnOk P w K mg base CX0 2 f fd P_times (liftSp K (spArL gTimes)) := by
  refine fn_D F sc_times (fun ds M Q ⟨a, b, c, d, e, _⟩ => by subst e; rfl) fun cdv A outer s H EE ds M Q hr h => ?_
  have nd := sc_times.nd
  obtain ⟨a, b, c, d, rfl, hb, hd, ga, gc, la, lb, lc, ld, q⟩ := h
  have i1 := Bd.of la
  have i2 := Bd.of lb
  have i3 := Bd.of lc
  have i4 := Bd.of ld
  generalize ep : ((Int.gcd a d : Nat) : Int) = p0
  generalize eq : ((Int.gcd c b : Nat) : Int) = q0
  obtain ⟨hp, hq, lpd, lqb, r1, r2⟩ := times_is hb hd ga gc ep.symm eq.symm
  have i5 : Bd p0 3000 := Bd.le lpd i4
  have i6 : Bd q0 3000 := Bd.le lqb i2
  refine exs_cons ?_
  repeat tm_at "d"
  rw [abs_eq]
  refine ⟨_, _, rfl, Int.natCast_nonneg _, by omega, Lim.le (by rw [Int.natAbs_natCast]; exact Nat.le_refl _) (lim (x := a)), lim, ?_⟩
  rw [gcd_abs, ep]
  repeat tm_at "d"
  rw [abs_eq]
  refine ⟨_, _, rfl, Int.natCast_nonneg _, by omega, Lim.le (by rw [Int.natAbs_natCast]; exact Nat.le_refl _) (lim (x := c)), lim, ?_⟩
  rw [gcd_abs, eq]
  repeat tm_at "d"
  simp only [gTimes] at q
  rw [r1, r2] at q
  exact q
end

section
variable {P : Program} {w : World} {K : PySem.W.Frag} {mg : Str → Option Value} {base : Heap} {f : Addr} {fd : FuncData} {Cn P0 : Addr}
local macro_rules | `(tactic| tm_at "var") => `(tactic| first | ((with_reducible show EV _ _ _ (Expr.Name "terms" _) _); tm_at "v0") | ((with_reducible show EV _ _ _ (Expr.Name "point" _) _); tm_at "v1") | ((with_reducible show EV _ _ _ (Expr.Name "term" _) _); tm_at "v2"))
local macro_rules | `(tactic| tm_at "asg") => `(tactic| first | ((with_reducible show EX _ _ _ (Stmt.Assign [Expr.Name "terms" _] _ _) _); tm_at "a0") | ((with_reducible show EX _ _ _ (Stmt.Assign [Expr.Name "point" _] _ _) _); tm_at "a1") | ((with_reducible show EX _ _ _ (Stmt.Assign [Expr.Name "term" _] _ _) _); tm_at "a2"))
local macro_rules | `(tactic| tm_at "gvn") => `(tactic| first | ((with_reducible show GV _ _ _ (Expr.Name "terms" _) _ _); tm_at "g0") | ((with_reducible show GV _ _ _ (Expr.Name "point" _) _ _); tm_at "g1") | ((with_reducible show GV _ _ _ (Expr.Name "term" _) _ _); tm_at "g2"))
theorem ok_must_have_names (F : Fun K "must_have_names" "must_have_names" s_must_have_names f fd) (m : Mkr P w K mg base 1 "NoName" Cn P0 ["name"]) : FnOk P w K mg base (XCX P w) 3 f fd P_must_have_names (liftX K (spMustX Cn)) := by
  refine fn_X F sc_must_have_names (fun ds M Q R ⟨a, b, c, e, _⟩ => by subst e; rfl) fun cdv A outer s H EE ds M Q R hr h T => ?_
  have nd := sc_must_have_names.nd
  obtain ⟨ts, d0, kvs, rfl, hd, hfit, q, qr⟩ := h
  refine exs_cons (ex_for_tup pass_fn rfl ?_)
  repeat tm_at "d"
  refine ⟨ts.map tD, fun i G' M' => ∃ r2 : Option D, G' = [some (trm ts), some (.ref d0), r2] ∧ M' = M ∧ lack kvs (ts.take i) = [], rfl, ⟨none, rfl, rfl, rfl⟩, ?_, ?_⟩
  · rintro i d G' M' hx ⟨r2, rfl, rfl, h0⟩
    rw [List.getElem?_map] at hx
    cases ht : ts[i]? with
    | none => rw [ht] at hx; cases hx
    | some t =>
      rw [ht] at hx
      have hx : tD t = d := by simpa using hx
      subst hx
      unfold KA.tD
      repeat tm_at "d"
      refine in_d hd ?_
      cases hl : lkD kvs t.1 with
      | some v =>
        refine ifNT ?_
        repeat tm_at "d"
        exact ⟨_, rfl, rfl, lack_snoc ht h0 (by rw [hl]; rfl)⟩
      | none =>
        refine ifNF ?_
        repeat tm_at "d"
        with_reducible refine' ex_raise ?n0 ?n1 ?n2 ?n3 ?n4 ?n5 ?_ ?n6 ?n7 ?n8 ?n9
        case n0 => exact m
        case n1 => exact hr
        case n2 => omega
        case n3 => rfl
        case n4 => exact T
        case n5 => decide
        case n6 => rfl
        case n7 => decide
        case n8 => rfl
        case n9 => rfl
        repeat tm_at "d"
        obtain ⟨r, hr'⟩ := lack_at ht h0 hl
        exact ⟨rfl, fun dx hdx => qr _ r hr' dx hdx⟩
  · rintro G' M' ⟨r2, rfl, rfl, h0⟩
    refine exs_nil ?_
    rw [List.length_map, List.take_length] at h0
    exact q h0
end

section
variable {P : Program} {w : World} {K : PySem.W.Frag} {mg : Str → Option Value} {base : Heap} {f : Addr} {fd : FuncData} {Cn : Addr}
local macro_rules | `(tactic| tm_at "var") => `(tactic| first | ((with_reducible show EV _ _ _ (Expr.Name "one" _) _); tm_at "v0") | ((with_reducible show EV _ _ _ (Expr.Name "point" _) _); tm_at "v1") | ((with_reducible show EV _ _ _ (Expr.Name "added" _) _); tm_at "v2") | ((with_reducible show EV _ _ _ (Expr.Name "name" _) _); tm_at "v3") | ((with_reducible show EV _ _ _ (Expr.Name "weight" _) _); tm_at "v4"))
local macro_rules | `(tactic| tm_at "asg") => `(tactic| first | ((with_reducible show EX _ _ _ (Stmt.Assign [Expr.Name "one" _] _ _) _); tm_at "a0") | ((with_reducible show EX _ _ _ (Stmt.Assign [Expr.Name "point" _] _ _) _); tm_at "a1") | ((with_reducible show EX _ _ _ (Stmt.Assign [Expr.Name "added" _] _ _) _); tm_at "a2") | ((with_reducible show EX _ _ _ (Stmt.Assign [Expr.Name "name" _] _ _) _); tm_at "a3") | ((with_reducible show EX _ _ _ (Stmt.Assign [Expr.Name "weight" _] _ _) _); tm_at "a4"))
local macro_rules | `(tactic| tm_at "gvn") => `(tactic| first | ((with_reducible show GV _ _ _ (Expr.Name "one" _) _ _); tm_at "g0") | ((with_reducible show GV _ _ _ (Expr.Name "point" _) _ _); tm_at "g1") | ((with_reducible show GV _ _ _ (Expr.Name "added" _) _ _); tm_at "g2") | ((with_reducible show GV _ _ _ (Expr.Name "name" _) _ _); tm_at "g3") | ((with_reducible show GV _ _ _ (Expr.Name "weight" _) _ _); tm_at "g4"))
theorem ok_worth (F : Fun K "worth" "worth" s_worth f fd) (CM : CalX P w K mg base 3 "must_have_names" (spMustX Cn)) (C_plus : Cal P w K mg base 2 "plus" (spArL gPlus)) (C_times : Cal P w K mg base 2 "times" (spArL gTimes)) : FnOk P w K mg base (XCX P w) 4 f fd P_worth (liftX K (spWorthX Cn)) := by
  refine fn_X F sc_worth (fun ds M Q R ⟨a, b, c, d, e, h, _⟩ => by subst h; rfl) fun cdv A outer s H EE ds M Q R hr h T => ?_
  have nd := sc_worth.nd
  obtain ⟨ts, wh, by0, d0, kvs, rfl, hd, hfit, bw, hb, lb, q, qr⟩ := h
  refine exs_cons ?_
  repeat tm_at "d"
  with_reducible refine' ev_callX ?n0 ?n1 ?n2 ?n3 ?_ ?n4 ?n5 ?n6 ?n7
  case n0 => exact CM
  case n1 => exact hr
  case n2 => omega
  case n3 => exact T
  case n4 => rfl
  case n5 => decide
  case n6 => rfl
  case n7 => rfl
  repeat tm_at "d"
  refine ⟨ts, d0, kvs, rfl, hd, hfit, fun hnil => ?_, qr⟩
  have hall := hfit.all hnil
  have q := q hnil
  clear qr
  repeat first | tm_at "d" | refine exs_cons ?_
  refine (ex_for_tup pass_fn rfl ?_)
  repeat tm_at "d"
  refine ⟨ts.map KA.tD, fun i G' M' => ∃ r3 r4 : Option D, G' = [some (.tup [trm ts, .int wh, .int by0]), some (.ref d0), some (fr (tp (addUp kvs (ts.take i) wh 1).1 (addUp kvs (ts.take i) wh 1).2) (bt (addUp kvs (ts.take i) wh 1).1 (addUp kvs (ts.take i) wh 1).2)), r3, r4] ∧ M' = M, rfl, ⟨none, none, ?_, rfl⟩, ?_, ?_⟩
  · show _ = [_, _, some (fr (tp wh 1) (bt wh 1)), _, _]
    rw [tp_one.1, tp_one.2]; rfl
  · rintro i d G' M' hx ⟨r3, r4, rfl, rfl⟩
    rw [List.getElem?_map] at hx
    cases ht : ts[i]? with
    | none => rw [ht] at hx; cases hx
    | some t =>
      rw [ht] at hx
      have hx : KA.tD t = d := by simpa using hx
      subst hx
      obtain ⟨hh, bt'⟩ := hall.2 t (List.mem_of_getElem? ht)
      obtain ⟨h1, hv, bx, by'⟩ := hh.at
      have hco : Int.gcd (atP kvs t.1).1 (atP kvs t.1).2 = 1 := by
        obtain ⟨d, x, y, e1, rfl, _, e3, _, _⟩ := hh
        have e : atP kvs t.1 = (x, y) := by unfold atP; rw [e1]
        rw [e]; exact e3
      obtain ⟨hU, b1, b2⟩ := (hall.take i).bounds wh bw
      have e := addUp_snoc kvs t (ts.take i) wh 1
      have htk : ts.take (i + 1) = ts.take i ++ [t] := by rw [List.take_add_one, ht]; rfl
      rw [← htk] at e
      generalize (addUp kvs (ts.take i) wh 1).1 = T' at *
      generalize (addUp kvs (ts.take i) wh 1).2 = U at *
      generalize (atP kvs t.1).1 = vx at *
      generalize (atP kvs t.1).2 = vy at *
      have hU0 : U ≠ 0 := by omega
      have hv0 : (1 : Int) * vy ≠ 0 := by omega
      have l1 : B 3000 (tp T' U) := B.up (by decide) (B.le (tp_le hU0) b1)
      have l2 : B 3000 (bt T' U) := B.up (by decide) (B.le (bt_le hU0) b2)
      have i3 := Bd.of bt'
      have i4 := Bd.of bx
      have i5 := Bd.of by'
      unfold KA.tD
      repeat tm_at "d"
      refine ix_ad hd h1 ?_
      repeat tm_at "d"
      refine ⟨_, _, _, _, rfl, by decide, hv, by rw [Int.gcd_one], hco, (Bd.up (x := t.2)).b, (Bd.up (x := 1)).b, B.up (by decide) bx, B.up (by decide) by', ?_⟩
      simp only [gTimes]
      have p1 := bt_pos (t := T') hU0
      have p2 := bt_pos (t := t.2 * vx) hv0
      have l3 : B 3000 (tp (t.2 * vx) (1 * vy)) := B.le (tp_le hv0) (Bd.b (Bd.up (x := t.2 * vx)))
      have l4 : B 3000 (bt (t.2 * vx) (1 * vy)) := B.le (bt_le hv0) (Bd.b (Bd.up (x := 1 * vy)))
      repeat tm_at "d"
      refine ⟨_, _, _, _, rfl, p1, p2, coprime hU0, coprime hv0, l1, l2, l3, l4, ?_⟩
      simp only [gPlus]
      have c1 := cross T' U
      have c2 := cross (t.2 * vx) (1 * vy)
      have me := made_eq (t := tp T' U * bt (t.2 * vx) (1 * vy) + tp (t.2 * vx) (1 * vy) * bt T' U) (b := bt T' U * bt (t.2 * vx) (1 * vy)) (t' := T' * vy + t.2 * vx * U) (b' := U * vy) (Int.mul_ne_zero (by omega) (by omega)) (Int.mul_ne_zero hU0 (by omega)) (by
        generalize tp T' U = x1 at *
        generalize bt T' U = y1 at *
        generalize tp (t.2 * vx) (1 * vy) = x2 at *
        generalize bt (t.2 * vx) (1 * vy) = y2 at *
        grind)
      rw [me.1, me.2]
      repeat tm_at "d"
      exact ⟨_, _, by rw [e]; rfl, by first | rfl | trivial⟩
  · rintro G' M' ⟨r3, r4, rfl, rfl⟩
    rw [List.length_map, List.take_length]
    obtain ⟨hU, b1, b2⟩ := hall.bounds wh bw
    generalize (addUp kvs ts wh 1).1 = T' at *
    generalize (addUp kvs ts wh 1).2 = U at *
    have hU0 : U ≠ 0 := by omega
    have l1 : B 3000 (tp T' U) := B.up (by decide) (B.le (tp_le hU0) b1)
    have l2 : B 3000 (bt T' U) := B.up (by decide) (B.le (bt_le hU0) b2)
    repeat tm_at "d"
    refine ⟨_, _, _, _, rfl, bt_pos hU0, hb, coprime hU0, by rw [Int.one_gcd], l1, l2, (Bd.up (x := 1)).b, B.up (by decide) lb, ?_⟩
    exact q _
end

section
variable {P : Program} {w : World} {K : PySem.W.Frag} {mg : Str → Option Value} {base : Heap} {f : Addr} {fd : FuncData} {Cn : Addr}
local macro_rules | `(tactic| tm_at "var") => `(tactic| first | ((with_reducible show EV _ _ _ (Expr.Name "terms" _) _); tm_at "v0") | ((with_reducible show EV _ _ _ (Expr.Name "point" _) _); tm_at "v1") | ((with_reducible show EV _ _ _ (Expr.Name "top" _) _); tm_at "v2") | ((with_reducible show EV _ _ _ (Expr.Name "bottom" _) _); tm_at "v3") | ((with_reducible show EV _ _ _ (Expr.Name "name" _) _); tm_at "v4") | ((with_reducible show EV _ _ _ (Expr.Name "weight" _) _); tm_at "v5") | ((with_reducible show EV _ _ _ (Expr.Name "value" _) _); tm_at "v6"))
local macro_rules | `(tactic| tm_at "asg") => `(tactic| first | ((with_reducible show EX _ _ _ (Stmt.Assign [Expr.Name "terms" _] _ _) _); tm_at "a0") | ((with_reducible show EX _ _ _ (Stmt.Assign [Expr.Name "point" _] _ _) _); tm_at "a1") | ((with_reducible show EX _ _ _ (Stmt.Assign [Expr.Name "top" _] _ _) _); tm_at "a2") | ((with_reducible show EX _ _ _ (Stmt.Assign [Expr.Name "bottom" _] _ _) _); tm_at "a3") | ((with_reducible show EX _ _ _ (Stmt.Assign [Expr.Name "name" _] _ _) _); tm_at "a4") | ((with_reducible show EX _ _ _ (Stmt.Assign [Expr.Name "weight" _] _ _) _); tm_at "a5") | ((with_reducible show EX _ _ _ (Stmt.Assign [Expr.Name "value" _] _ _) _); tm_at "a6"))
local macro_rules | `(tactic| tm_at "gvn") => `(tactic| first | ((with_reducible show GV _ _ _ (Expr.Name "terms" _) _ _); tm_at "g0") | ((with_reducible show GV _ _ _ (Expr.Name "point" _) _ _); tm_at "g1") | ((with_reducible show GV _ _ _ (Expr.Name "top" _) _ _); tm_at "g2") | ((with_reducible show GV _ _ _ (Expr.Name "bottom" _) _ _); tm_at "g3") | ((with_reducible show GV _ _ _ (Expr.Name "name" _) _ _); tm_at "g4") | ((with_reducible show GV _ _ _ (Expr.Name "weight" _) _ _); tm_at "g5") | ((with_reducible show GV _ _ _ (Expr.Name "value" _) _ _); tm_at "g6"))
theorem ok_added_up (F : Fun K "added_up" "added_up" s_added_up f fd) (CM : CalX P w K mg base 3 "must_have_names" (spMustX Cn)) : FnOk P w K mg base (XCX P w) 4 f fd P_added_up (liftX K (spAddedX Cn)) := by
  refine fn_X F sc_added_up (fun ds M Q R ⟨a, b, c, e, _⟩ => by subst e; rfl) fun cdv A outer s H EE ds M Q R hr h T => ?_
  have nd := sc_added_up.nd
  obtain ⟨ts, d0, kvs, rfl, hd, hfit, q, qr⟩ := h
  refine exs_cons ?_
  repeat tm_at "d"
  with_reducible refine' ev_callX ?n0 ?n1 ?n2 ?n3 ?_ ?n4 ?n5 ?n6 ?n7
  case n0 => exact CM
  case n1 => exact hr
  case n2 => omega
  case n3 => exact T
  case n4 => rfl
  case n5 => decide
  case n6 => rfl
  case n7 => rfl
  repeat tm_at "d"
  refine ⟨ts, d0, kvs, rfl, hd, hfit, fun hnil => ?_, qr⟩
  have hall := hfit.all hnil
  have q := q hnil
  clear qr
  repeat tm_at "d"
  refine exs_cons (ex_for_tup pass_fn rfl ?_)
  repeat tm_at "d"
  refine ⟨ts.map tD, fun i G' M' => ∃ r4 r5 r6 : Option D, G' = [some (trm ts), some (.ref d0), some (.int (addUp kvs (ts.take i) 0 1).1), some (.int (addUp kvs (ts.take i) 0 1).2), r4, r5, r6] ∧ M' = M, rfl, ⟨none, none, none, rfl, rfl⟩, ?_, ?_⟩
  · rintro i d G' M' hx ⟨r4, r5, r6, rfl, rfl⟩
    rw [List.getElem?_map] at hx
    cases ht : ts[i]? with
    | none => rw [ht] at hx; cases hx
    | some t =>
      rw [ht] at hx
      have hx : tD t = d := by simpa using hx
      subst hx
      obtain ⟨hh, bw⟩ := hall.2 t (List.mem_of_getElem? ht)
      obtain ⟨h1, _, bx, by'⟩ := hh.at
      obtain ⟨_, b1, b2⟩ := (hall.take i).bounds 0 (by unfold B; decide)
      have e := addUp_snoc kvs t (ts.take i) 0 1
      have htk : ts.take (i + 1) = ts.take i ++ [t] := by rw [List.take_add_one, ht]; rfl
      rw [← htk] at e
      generalize (addUp kvs (ts.take i) 0 1).1 = T' at *
      generalize (addUp kvs (ts.take i) 0 1).2 = U at *
      have i1 := Bd.of b1
      have i2 := Bd.of b2
      have i3 := Bd.of bw
      have i4 := Bd.of bx
      have i5 := Bd.of by'
      unfold KA.tD
      repeat tm_at "d"
      refine ix_ad hd h1 ?_
      repeat tm_at "d"
      exact ⟨_, _, _, by rw [e]; rfl, rfl⟩
  · rintro G' M' ⟨r4, r5, r6, rfl, rfl⟩
    rw [List.length_map, List.take_length]
    repeat tm_at "d"
    exact q
local macro_rules | `(tactic| tm_at "var") => `(tactic| first | ((with_reducible show EV _ _ _ (Expr.Name "row" _) _); tm_at "v0") | ((with_reducible show EV _ _ _ (Expr.Name "point" _) _); tm_at "v1") | ((with_reducible show EV _ _ _ (Expr.Name "added" _) _); tm_at "v2") | ((with_reducible show EV _ _ _ (Expr.Name "bound" _) _); tm_at "v3"))
local macro_rules | `(tactic| tm_at "asg") => `(tactic| first | ((with_reducible show EX _ _ _ (Stmt.Assign [Expr.Name "row" _] _ _) _); tm_at "a0") | ((with_reducible show EX _ _ _ (Stmt.Assign [Expr.Name "point" _] _ _) _); tm_at "a1") | ((with_reducible show EX _ _ _ (Stmt.Assign [Expr.Name "added" _] _ _) _); tm_at "a2") | ((with_reducible show EX _ _ _ (Stmt.Assign [Expr.Name "bound" _] _ _) _); tm_at "a3"))
local macro_rules | `(tactic| tm_at "gvn") => `(tactic| first | ((with_reducible show GV _ _ _ (Expr.Name "row" _) _ _); tm_at "g0") | ((with_reducible show GV _ _ _ (Expr.Name "point" _) _ _); tm_at "g1") | ((with_reducible show GV _ _ _ (Expr.Name "added" _) _ _); tm_at "g2") | ((with_reducible show GV _ _ _ (Expr.Name "bound" _) _ _); tm_at "g3"))
theorem ok_is_so (F : Fun K "is_so" "is_so" s_is_so f fd) (CM : CalX P w K mg base 4 "added_up" (spAddedX Cn)) : FnOk P w K mg base (XCX P w) 5 f fd P_is_so (liftX K (spIsSoX Cn)) := by
  refine fn_X F sc_is_so (fun ds M Q R ⟨a, b, c, d, e, h, _⟩ => by subst h; rfl) fun cdv A outer s H EE ds M Q R hr h T => ?_
  have nd := sc_is_so.nd
  obtain ⟨k, ts, b, d0, kvs, rfl, hd, hfit, lb, q, qr⟩ := h
  refine exs_cons ?_
  repeat tm_at "d"
  with_reducible refine' ev_callX ?n0 ?n1 ?n2 ?n3 ?_ ?n4 ?n5 ?n6 ?n7
  case n0 => exact CM
  case n1 => exact hr
  case n2 => omega
  case n3 => exact T
  case n4 => rfl
  case n5 => decide
  case n6 => rfl
  case n7 => rfl
  repeat tm_at "d"
  refine ⟨ts, d0, kvs, rfl, hd, hfit, fun hnil => ?_, qr⟩
  have hall := hfit.all hnil
  have q := q hnil
  clear qr
  obtain ⟨h0, b1, b2⟩ := hall.bounds 0 (by unfold B; decide)
  generalize (addUp kvs ts 0 1).1 = T' at *
  generalize (addUp kvs ts 0 1).2 = U at *
  have i1 := Bd.of b1
  have i2 := Bd.of b2
  have i3 := Bd.of lb
  repeat tm_at "d"
  refine exs_cons ?_
  repeat tm_at "d"
  cases k with
  | true =>
    refine ifDy rfl ?_
    repeat tm_at "d"
    exact q _
  | false =>
    refine ifDn (by decide) ?_
    repeat tm_at "d"
    exact q _
end

/-- what flies out of the two -/
def flyR (G0 : Ga) (M : MH) (Cn : Addr) (L : List Str) : Ga → XQ := fun G' C fs M' => G' = G0 ∧ C = Cn ∧ ∃ n r dx0, L = n :: r ∧ fs = noNm n ∧ M dx0 = none ∧ M' = mset M dx0 (.att (noNm n))
section
variable {P : Program} {w : World} {K : PySem.W.Frag} {mg : Str → Option Value} {base : Heap} {f : Addr} {fd : FuncData} {Cn P0 : Addr}
local macro_rules | `(tactic| tm_at "var") => `(tactic| first | ((with_reducible show EV _ _ _ (Expr.Name "_law_way" _) _); tm_at "v0") | ((with_reducible show EV _ _ _ (Expr.Name "_law_total" _) _); tm_at "v1") | ((with_reducible show EV _ _ _ (Expr.Name "_law_row_here" _) _); tm_at "v2") | ((with_reducible show EV _ _ _ (Expr.Name "_law_point" _) _); tm_at "v3") | ((with_reducible show EV _ _ _ (Expr.Name "_law_caught_here" _) _); tm_at "v4") | ((with_reducible show EV _ _ _ (Expr.Name "_law_e" _) _); tm_at "v5"))
local macro_rules | `(tactic| tm_at "asg") => `(tactic| first | ((with_reducible show EX _ _ _ (Stmt.Assign [Expr.Name "_law_way" _] _ _) _); tm_at "a0") | ((with_reducible show EX _ _ _ (Stmt.Assign [Expr.Name "_law_total" _] _ _) _); tm_at "a1") | ((with_reducible show EX _ _ _ (Stmt.Assign [Expr.Name "_law_row_here" _] _ _) _); tm_at "a2") | ((with_reducible show EX _ _ _ (Stmt.Assign [Expr.Name "_law_point" _] _ _) _); tm_at "a3") | ((with_reducible show EX _ _ _ (Stmt.Assign [Expr.Name "_law_caught_here" _] _ _) _); tm_at "a4") | ((with_reducible show EX _ _ _ (Stmt.Assign [Expr.Name "_law_e" _] _ _) _); tm_at "a5"))
local macro_rules | `(tactic| tm_at "gvn") => `(tactic| first | ((with_reducible show GV _ _ _ (Expr.Name "_law_way" _) _ _); tm_at "g0") | ((with_reducible show GV _ _ _ (Expr.Name "_law_total" _) _ _); tm_at "g1") | ((with_reducible show GV _ _ _ (Expr.Name "_law_row_here" _) _ _); tm_at "g2") | ((with_reducible show GV _ _ _ (Expr.Name "_law_point" _) _ _); tm_at "g3") | ((with_reducible show GV _ _ _ (Expr.Name "_law_caught_here" _) _ _); tm_at "g4") | ((with_reducible show GV _ _ _ (Expr.Name "_law_e" _) _ _); tm_at "g5"))
theorem ok_l_caught (F : Fun K "_law_caught" "_law_caught" s_l_caught f fd) (CW : CalX P w K mg base 4 "worth" (spWorthX Cn)) (CS : CalX P w K mg base 5 "is_so" (spIsSoX Cn)) (eN : X1.Err K Cn P0) (e0 : X1.Err0 K P0) (mK : mg "KeepError" = some (.ref P0)) : FnOk P w K mg base CX0 6 f fd P_l_caught (liftSp K (spCaught Cn)) := by
  refine fn_T F sc_l_caught (fun ds M Q ⟨a, b, c, d, e, g, i, j, k, h, _⟩ => by subst h; rfl) fun cdv A outer s H EE ds M Q hr h => ?_
  have nd := sc_l_caught.nd
  obtain ⟨way, tsS, wh, by0, k, tsR, bd, d0, kvs, rfl, hd, fS, fR, bw, hb, lb, lbd, hway, qn, qx⟩ := h
  refine ext_cons ?_
  repeat tm_at "d"
  generalize hG0 : ([some (.int way), some (.tup [trm tsS, .int wh, .int by0]), some (rowD k tsR bd), some (.ref d0), some .non, none] : Ga) = G0
  refine ext_try (i := 5) (R := flyR G0 M Cn (lack kvs (if way = 0 then tsS else tsR))) ?hok rfl rfl nd rfl ?hl ?hf mK ?hg e0 ?hR
  case hl => rfl
  case hf => rfl
  case hg => rfl
  case hok =>
    subst hG0
    intro pins xe' T
    refine exs_cons ?_
    repeat tm_at "d"
    rcases hway with rfl | rfl
    · refine ifDy rfl ?_
      repeat tm_at "d"
      with_reducible refine' ev_callX ?n0 ?n1 ?n2 ?n3 ?_ ?n4 ?n5 ?n6 ?n7
      case n0 => exact CW
      case n1 => exact hr
      case n2 => omega
      case n3 => exact T
      case n4 => rfl
      case n5 => decide
      case n6 => rfl
      case n7 => rfl
      repeat tm_at "d"
      refine ⟨tsS, wh, by0, d0, kvs, rfl, hd, fS, bw, hb, lb, fun hnil d => ?_, fun n r hn dx hdx => ⟨rfl, rfl, n, r, dx, hn, rfl, hdx, rfl⟩⟩
      repeat tm_at "d"
      refine ifDn (by decide) ?_
      repeat tm_at "d"
      refine ext_of ?_
      repeat tm_at "d"
      exact qn hnil
    · refine ifDn (by decide) ?_
      repeat tm_at "d"
      refine ifDy rfl ?_
      repeat tm_at "d"
      with_reducible refine' ev_callX ?n0 ?n1 ?n2 ?n3 ?_ ?n4 ?n5 ?n6 ?n7
      case n0 => exact CS
      case n1 => exact hr
      case n2 => omega
      case n3 => exact T
      case n4 => rfl
      case n5 => decide
      case n6 => rfl
      case n7 => rfl
      repeat tm_at "d"
      refine ⟨k, tsR, bd, d0, kvs, rfl, hd, fR, lbd, fun hnil d => ?_, fun n r hn dx hdx => ⟨rfl, rfl, n, r, dx, hn, rfl, hdx, rfl⟩⟩
      repeat tm_at "d"
      refine ext_of ?_
      repeat tm_at "d"
      exact qn hnil
  case hR =>
    rintro G1 C fs M1 ⟨rfl, rfl, n, r, dx0, hn, rfl, hdx0, rfl⟩
    subst hG0
    refine ⟨eN, fun a dx ha hdx hne => ?_⟩
    repeat tm_at "d"
    refine ext_of ?_
    repeat tm_at "d"
    refine qx n r hn a dx _ (fun b o hb ho => ?_) mset_same (by rw [mset_ne hne, mset_same]) hne
    have hb0 : b ≠ dx0 := fun z => by rw [z, hdx0] at hb; cases hb
    have hb1 : mset M dx0 (.att (noNm n)) b = some o := by rw [mset_ne hb0]; exact hb
    have hba : b ≠ a := fun z => by rw [z, ha] at hb1; cases hb1
    rw [mset_ne hba]
    by_cases hbd : b = dx
    · subst hbd
      rcases hdx with z | ⟨fs', z⟩
      · rw [hb1] at z; cases z
      · rw [hb1] at z; cases z; exact absurd rfl (ho fs')
    · rw [mset_ne hbd]; exact hb1
end

section
variable {P : Program} {w : World} {K : PySem.W.Frag} {mg : Str → Option Value} {base : Heap} {f : Addr} {fd : FuncData} {C P0 : Addr}
local macro_rules | `(tactic| tm_at "var") => `(tactic| first | ((with_reducible show EV _ _ _ (Expr.Name "self" _) _); tm_at "v0") | ((with_reducible show EV _ _ _ (Expr.Name "name" _) _); tm_at "v1"))
local macro_rules | `(tactic| tm_at "asg") => `(tactic| first | ((with_reducible show EX _ _ _ (Stmt.Assign [Expr.Name "self" _] _ _) _); tm_at "a0") | ((with_reducible show EX _ _ _ (Stmt.Assign [Expr.Name "name" _] _ _) _); tm_at "a1"))
local macro_rules | `(tactic| tm_at "gvn") => `(tactic| first | ((with_reducible show GV _ _ _ (Expr.Name "self" _) _ _); tm_at "g0") | ((with_reducible show GV _ _ _ (Expr.Name "name" _) _ _); tm_at "g1"))
theorem ok_NoName_init (F : Fun K "__init__" "NoName.__init__" s_NoName_init f fd) (e : ErrF K C P0 "name") : FnOk P w K mg base CX0 1 f fd P_NoName_init (liftSp K (spIni C ["name"])) := by
  refine fn_D F sc_NoName_init (fun ds M Q ⟨a, vs, h, hl, _⟩ => by subst h; show vs.length + 1 = _; rw [hl]; rfl) fun cdv A outer s H EE ds M Q hr h => ?_
  have nd := sc_NoName_init.nd
  obtain ⟨a, vs, rfl, hl, ha, q⟩ := h
  obtain ⟨v, rfl⟩ : ∃ v, vs = [v] := match vs, hl with | [v], _ => ⟨v, rfl⟩
  refine exs_one ?_
  with_reducible refine' ex_fldX (C := C) (P := P0) ?n1 ?_ ?n0
  case n1 => exact e
  case n0 => rfl
  repeat tm_at "d"
  exact ⟨a, rfl, .inl ⟨ha, fun dx h1 h2 => q dx h1 h2⟩⟩
local macro_rules | `(tactic| tm_at "var") => `(tactic| first | ((with_reducible show EV _ _ _ (Expr.Name "self" _) _); tm_at "v0") | ((with_reducible show EV _ _ _ (Expr.Name "place" _) _); tm_at "v1"))
local macro_rules | `(tactic| tm_at "asg") => `(tactic| first | ((with_reducible show EX _ _ _ (Stmt.Assign [Expr.Name "self" _] _ _) _); tm_at "a0") | ((with_reducible show EX _ _ _ (Stmt.Assign [Expr.Name "place" _] _ _) _); tm_at "a1"))
local macro_rules | `(tactic| tm_at "gvn") => `(tactic| first | ((with_reducible show GV _ _ _ (Expr.Name "self" _) _ _); tm_at "g0") | ((with_reducible show GV _ _ _ (Expr.Name "place" _) _ _); tm_at "g1"))
theorem ok_NoMeasure_init (F : Fun K "__init__" "NoMeasure.__init__" s_NoMeasure_init f fd) (e : ErrF K C P0 "place") : FnOk P w K mg base CX0 1 f fd P_NoMeasure_init (liftSp K (spIni C ["place"])) := by
  refine fn_D F sc_NoMeasure_init (fun ds M Q ⟨a, vs, h, hl, _⟩ => by subst h; show vs.length + 1 = _; rw [hl]; rfl) fun cdv A outer s H EE ds M Q hr h => ?_
  have nd := sc_NoMeasure_init.nd
  obtain ⟨a, vs, rfl, hl, ha, q⟩ := h
  obtain ⟨v, rfl⟩ : ∃ v, vs = [v] := match vs, hl with | [v], _ => ⟨v, rfl⟩
  refine exs_one ?_
  with_reducible refine' ex_fldX (C := C) (P := P0) ?n1 ?_ ?n0
  case n1 => exact e
  case n0 => rfl
  repeat tm_at "d"
  exact ⟨a, rfl, .inl ⟨ha, fun dx h1 h2 => q dx h1 h2⟩⟩
local macro_rules | `(tactic| tm_at "var") => `(tactic| first | ((with_reducible show EV _ _ _ (Expr.Name "self" _) _); tm_at "v0") | ((with_reducible show EV _ _ _ (Expr.Name "line" _) _); tm_at "v1"))
local macro_rules | `(tactic| tm_at "asg") => `(tactic| first | ((with_reducible show EX _ _ _ (Stmt.Assign [Expr.Name "self" _] _ _) _); tm_at "a0") | ((with_reducible show EX _ _ _ (Stmt.Assign [Expr.Name "line" _] _ _) _); tm_at "a1"))
local macro_rules | `(tactic| tm_at "gvn") => `(tactic| first | ((with_reducible show GV _ _ _ (Expr.Name "self" _) _ _); tm_at "g0") | ((with_reducible show GV _ _ _ (Expr.Name "line" _) _ _); tm_at "g1"))
theorem ok_NoText_init (F : Fun K "__init__" "NoText.__init__" s_NoText_init f fd) (e : ErrF K C P0 "line") : FnOk P w K mg base CX0 1 f fd P_NoText_init (liftSp K (spIni C ["line"])) := by
  refine fn_D F sc_NoText_init (fun ds M Q ⟨a, vs, h, hl, _⟩ => by subst h; show vs.length + 1 = _; rw [hl]; rfl) fun cdv A outer s H EE ds M Q hr h => ?_
  have nd := sc_NoText_init.nd
  obtain ⟨a, vs, rfl, hl, ha, q⟩ := h
  obtain ⟨v, rfl⟩ : ∃ v, vs = [v] := match vs, hl with | [v], _ => ⟨v, rfl⟩
  refine exs_one ?_
  with_reducible refine' ex_fldX (C := C) (P := P0) ?n1 ?_ ?n0
  case n1 => exact e
  case n0 => rfl
  repeat tm_at "d"
  exact ⟨a, rfl, .inl ⟨ha, fun dx h1 h2 => q dx h1 h2⟩⟩
local macro_rules | `(tactic| tm_at "var") => `(tactic| first | ((with_reducible show EV _ _ _ (Expr.Name "self" _) _); tm_at "v0") | ((with_reducible show EV _ _ _ (Expr.Name "place" _) _); tm_at "v1"))
local macro_rules | `(tactic| tm_at "asg") => `(tactic| first | ((with_reducible show EX _ _ _ (Stmt.Assign [Expr.Name "self" _] _ _) _); tm_at "a0") | ((with_reducible show EX _ _ _ (Stmt.Assign [Expr.Name "place" _] _ _) _); tm_at "a1"))
local macro_rules | `(tactic| tm_at "gvn") => `(tactic| first | ((with_reducible show GV _ _ _ (Expr.Name "self" _) _ _); tm_at "g0") | ((with_reducible show GV _ _ _ (Expr.Name "place" _) _ _); tm_at "g1"))
theorem ok_NoLoop_init (F : Fun K "__init__" "NoLoop.__init__" s_NoLoop_init f fd) (e : ErrF K C P0 "place") : FnOk P w K mg base CX0 1 f fd P_NoLoop_init (liftSp K (spIni C ["place"])) := by
  refine fn_D F sc_NoLoop_init (fun ds M Q ⟨a, vs, h, hl, _⟩ => by subst h; show vs.length + 1 = _; rw [hl]; rfl) fun cdv A outer s H EE ds M Q hr h => ?_
  have nd := sc_NoLoop_init.nd
  obtain ⟨a, vs, rfl, hl, ha, q⟩ := h
  obtain ⟨v, rfl⟩ : ∃ v, vs = [v] := match vs, hl with | [v], _ => ⟨v, rfl⟩
  refine exs_one ?_
  with_reducible refine' ex_fldX (C := C) (P := P0) ?n1 ?_ ?n0
  case n1 => exact e
  case n0 => rfl
  repeat tm_at "d"
  exact ⟨a, rfl, .inl ⟨ha, fun dx h1 h2 => q dx h1 h2⟩⟩
theorem mset_two {M : MH} {a dx : Addr} {o1 o2 o3 o4 : MO} (h : dx ≠ a) : mset (mset (mset (mset M dx o1) a o2) dx o3) a o4 = mset (mset M dx o3) a o4 := by
  funext b
  by_cases c : b = a
  · subst c; rw [mset_same, mset_same]
  · rw [mset_ne c, mset_ne c]
    by_cases c2 : b = dx
    · subst c2; rw [mset_same, mset_same]
    · rw [mset_ne c2, mset_ne c2, mset_ne c, mset_ne c2]
local macro_rules | `(tactic| tm_at "var") => `(tactic| first | ((with_reducible show EV _ _ _ (Expr.Name "self" _) _); tm_at "v0") | ((with_reducible show EV _ _ _ (Expr.Name "number" _) _); tm_at "v1") | ((with_reducible show EV _ _ _ (Expr.Name "most" _) _); tm_at "v2"))
local macro_rules | `(tactic| tm_at "asg") => `(tactic| first | ((with_reducible show EX _ _ _ (Stmt.Assign [Expr.Name "self" _] _ _) _); tm_at "a0") | ((with_reducible show EX _ _ _ (Stmt.Assign [Expr.Name "number" _] _ _) _); tm_at "a1") | ((with_reducible show EX _ _ _ (Stmt.Assign [Expr.Name "most" _] _ _) _); tm_at "a2"))
local macro_rules | `(tactic| tm_at "gvn") => `(tactic| first | ((with_reducible show GV _ _ _ (Expr.Name "self" _) _ _); tm_at "g0") | ((with_reducible show GV _ _ _ (Expr.Name "number" _) _ _); tm_at "g1") | ((with_reducible show GV _ _ _ (Expr.Name "most" _) _ _); tm_at "g2"))
theorem ok_TooGreat_init (F : Fun K "__init__" "TooGreat.__init__" s_TooGreat_init f fd) (e : ErrF K C P0 "number") (e' : ErrF K C P0 "most") : FnOk P w K mg base CX0 1 f fd P_TooGreat_init (liftSp K (spIni C ["number", "most"])) := by
  refine fn_D F sc_TooGreat_init (fun ds M Q ⟨a, vs, h, hl, _⟩ => by subst h; show vs.length + 1 = _; rw [hl]; rfl) fun cdv A outer s H EE ds M Q hr h => ?_
  have nd := sc_TooGreat_init.nd
  obtain ⟨a, vs, rfl, hl, ha, q⟩ := h
  obtain ⟨v, u, rfl⟩ : ∃ v u, vs = [v, u] := match vs, hl with | [v, u], _ => ⟨v, u, rfl⟩
  refine exs_cons ?_
  with_reducible refine' ex_fldX (C := C) (P := P0) ?n1 ?_ ?n0
  case n1 => exact e
  case n0 => rfl
  repeat tm_at "d"
  refine ⟨a, rfl, .inl ⟨ha, fun dx h1 h2 => ?_⟩⟩
  refine exs_one ?_
  with_reducible refine' ex_fldX (C := C) (P := P0) ?n1 ?_ ?n0
  case n1 => exact e'
  case n0 => rfl
  repeat tm_at "d"
  refine ⟨a, rfl, .inr ⟨dx, [("number", v)], mset_same, by rw [mset_ne h2, mset_same], h2, (by show 1 < 100; omega), ?_⟩⟩
  rw [mset_two h2]
  exact q dx h1 h2
end

section
variable {P : Program} {w : World} {K : PySem.W.Frag} {mg : Str → Option Value} {base : Heap} {f : Addr} {fd : FuncData} {Cn P0 c2 c3 c4 c5 : Addr}
local macro_rules | `(tactic| tm_at "ev") => `(tactic| first
  | ((with_reducible show TV _ _ _ (Expr.Compare (Expr.Name "_law_lacks" _) [CmpOp.Eq] _ _) _); (with_reducible refine lxt_eq ?n0 ?_); (case n0 => exact hr.units))
  | ((with_reducible show EV _ _ _ (Expr.Compare (Expr.Name "_law_lacks" _) [CmpOp.Eq] _ _) _); (with_reducible refine lx_eq ?n0 ?_); (case n0 => exact hr.units)))
local macro_rules | `(tactic| tm_at "var") => `(tactic| first | ((with_reducible show EV _ _ _ (Expr.Name "_law_e" _) _); tm_at "v0") | ((with_reducible show EV _ _ _ (Expr.Name "_law_terms_here" _) _); tm_at "v1") | ((with_reducible show EV _ _ _ (Expr.Name "_law_point" _) _); tm_at "v2") | ((with_reducible show EV _ _ _ (Expr.Name "_law_lacks" _) _); tm_at "v3"))
local macro_rules | `(tactic| tm_at "asg") => `(tactic| first | ((with_reducible show EX _ _ _ (Stmt.Assign [Expr.Name "_law_e" _] _ _) _); tm_at "a0") | ((with_reducible show EX _ _ _ (Stmt.Assign [Expr.Name "_law_terms_here" _] _ _) _); tm_at "a1") | ((with_reducible show EX _ _ _ (Stmt.Assign [Expr.Name "_law_point" _] _ _) _); tm_at "a2") | ((with_reducible show EX _ _ _ (Stmt.Assign [Expr.Name "_law_lacks" _] _ _) _); tm_at "a3"))
local macro_rules | `(tactic| tm_at "gvn") => `(tactic| first | ((with_reducible show GV _ _ _ (Expr.Name "_law_e" _) _ _); tm_at "g0") | ((with_reducible show GV _ _ _ (Expr.Name "_law_terms_here" _) _ _); tm_at "g1") | ((with_reducible show GV _ _ _ (Expr.Name "_law_point" _) _ _); tm_at "g2") | ((with_reducible show GV _ _ _ (Expr.Name "_law_lacks" _) _ _); tm_at "g3"))
theorem ok_l_good (F : Fun K "_law_good" "_law_good" s_l_good f fd) (hIsi : mg "isinstance" = none) (hVE : mg "ValueError" = none) (m1 : mg "NoName" = some (.ref Cn)) (m2 : mg "NoLoop" = some (.ref c2)) (m3 : mg "NoMeasure" = some (.ref c3)) (m4 : mg "NoText" = some (.ref c4)) (m5 : mg "TooGreat" = some (.ref c5))
    (kn : X1.Knd K Cn) (eF : ErrF K Cn P0 "name") (kv : PySem.W.kitOne K (.ref Cn) (.type "ValueError") = some true) (ka : PySem.W.kitAny K (.ref Cn) [.ref c2, .ref c3, .ref c4, .ref c5] = some false) : FnOk P w K mg base CX0 1 f fd P_l_good (liftSp K (spGood5 Cn)) := by
  refine fn_D F sc_l_good (fun ds M Q ⟨a, b, c, d, h, _⟩ => by subst h; rfl) fun cdv A outer s H EE ds M Q hr h => ?_
  have nd := sc_l_good.nd
  obtain ⟨e, ts, d0, kvs, rfl, hd, h3, hok, hc, q⟩ := h
  refine exs_cons ?_
  with_reducible refine' ex_comp_tup 3 (own := ["_law_name", "_law_weight"]) (js := [2]) (N := ["_law_name", "_law_weight", "_law_point"]) ?T ?xe ?ca ?hN ?hj ?hy ?hyf ?hsw fst1 (lkP kvs) ?_ ?hs
  case T => exact compOk_freeB (fs := ["_law_point"]) rfl (by decide +kernel) (by decide +kernel) rfl rfl rfl rfl rfl
  case xe => rfl
  case ca => rfl
  case hN => exact nd
  case hj => rfl
  case hy => first | exact Or.inl rfl | exact Or.inr rfl
  case hyf => exact .inl rfl
  case hsw => rfl
  case hs => (intro _; rfl)
  repeat tm_at "d"
  refine ⟨ts.map KA.tD, rfl, small (by rw [List.length_map]; omega), ?_, fun p0 hp0 => ?_⟩
  · rintro Y ⟨C', s', H', fp, rfl⟩ M' hM d hd'
    obtain ⟨t, ht, rfl⟩ := List.mem_map.mp hd'
    have nd2 : (["_law_name", "_law_weight", "_law_point"] : List Str).Nodup := by decide +kernel
    unfold KA.tD
    refine gv_tup rfl ?_
    refine gvs_cons ?_
    refine gv_name 0 nd2 ?_
    refine gvs_cons ?_
    refine gv_name 1 nd2 ?_
    refine gvs_nil ?_
    refine ⟨rfl, fun i d e => ?_, ?_, fun _ => ?_⟩
    · rcases i with _ | _ | i
      · simp [compG] at e
      · simp [compG] at e
      · exact e
    · repeat first | (refine ev_var 0 ?_) | (refine ev_var 2 ?_) | tm_at "d"
      refine in_d (hM _ _ hd) ?_
      exact ⟨rfl, by show _ = (lkD kvs t.1).isNone; cases lkD kvs t.1 <;> rfl⟩
    · refine ev_var 0 ?_
      exact ⟨rfl, rfl⟩
  rw [lack_map]
  have hL : ∀ s ∈ lack kvs ts, PyData.strOk s = true := fun s hs => by
    obtain ⟨t, ht, rfl⟩ := List.mem_map.mp (lack_sub kvs ts s hs)
    exact hok t ht
  have i1 := imm_strs hL
  have i2 := dep_strs (lack kvs ts)
  have i3 := eq_nil_strs (lack kvs ts)
  have e1 : Ext M (mset M p0 (.lst ((lack kvs ts).map D.str))) := ext_new hp0
  have hp1 : mset M p0 (.lst ((lack kvs ts).map D.str)) p0 = some (.lst ((lack kvs ts).map D.str)) := mset_same
  generalize mset M p0 (.lst ((lack kvs ts).map D.str)) = M1 at e1 hp1 ⊢
  refine exs_cons ?_
  rcases hc with ⟨rfl, h0⟩ | ⟨a, dx, n, r, rfl, ha, hdx, hne, h0⟩
  · rw [h0] at hp1
    repeat tm_at "d"
    intro p hp
    refine eqx_l (mset_old hp hp1) mset_same rfl rfl (by decide) ?_
    exact q _ (Ext.trans e1 (ext_new hp))
  · rw [h0] at hp1 i1 i2 i3
    repeat tm_at "d"
    intro p hp
    refine eqx_l (mset_old hp hp1) mset_same i1 rfl (by omega) ?_
    rw [i3]
    refine ifDn (by simp) ?_
    have e2 : Ext M (mset M1 p (.lst [])) := Ext.trans e1 (ext_new hp)
    have hp2 : mset M1 p (.lst []) p0 = some (.lst ((n :: r).map D.str)) := mset_old hp hp1
    generalize mset M1 p (.lst []) = M2 at e2 hp2 ⊢
    have ha2 := e2 _ _ ha
    have hdx2 := e2 _ _ hdx
    repeat first | tm_at "d" | refine exs_cons ?_
    with_reducible refine' ev_isX ?n0 ?_ ?n1 ?n2 ?n3
    case n0 => exact hIsi
    case n1 => rfl
    case n2 => rfl
    case n3 => rfl
    repeat tm_at "d"
    with_reducible refine' ev_cls ?n0 ?_ ?n1 ?n2
    case n0 => exact m1
    case n1 => rfl
    case n2 => decide
    repeat tm_at "d"
    refine ⟨a, Cn, some dx, false, true, ha2, ⟨_, hdx2⟩, kn, .inl ⟨Cn, rfl, kit_self⟩, ?_⟩
    repeat tm_at "d"
    with_reducible refine' ev_isX ?n0 ?_ ?n1 ?n2 ?n3
    case n0 => exact hIsi
    case n1 => rfl
    case n2 => rfl
    case n3 => rfl
    repeat tm_at "d"
    with_reducible refine' ev_gty ?n0 ?n1 ?_ ?n2 ?n3 ?n4
    case n0 => exact hVE
    case n1 => exact bootVE
    case n2 => rfl
    case n3 => decide
    case n4 => decide
    repeat tm_at "d"
    refine ⟨a, Cn, some dx, false, true, ha2, ⟨_, hdx2⟩, kn, .inr ⟨"ValueError", rfl, kv⟩, ?_⟩
    repeat tm_at "d"
    with_reducible refine' ev_isXT ?n0 ?_ ?n1 ?n2 ?n3
    case n0 => exact hIsi
    case n1 => rfl
    case n2 => rfl
    case n3 => rfl
    repeat tm_at "d"
    with_reducible refine' ev_cls ?n0 ?_ ?n1 ?n2
    case n0 => exact m2
    case n1 => rfl
    case n2 => decide
    repeat tm_at "d"
    with_reducible refine' ev_cls ?n0 ?_ ?n1 ?n2
    case n0 => exact m3
    case n1 => rfl
    case n2 => decide
    repeat tm_at "d"
    with_reducible refine' ev_cls ?n0 ?_ ?n1 ?n2
    case n0 => exact m4
    case n1 => rfl
    case n2 => decide
    repeat tm_at "d"
    with_reducible refine' ev_cls ?n0 ?_ ?n1 ?n2
    case n0 => exact m5
    case n1 => rfl
    case n2 => decide
    repeat tm_at "d"
    refine ⟨a, Cn, some dx, false, false, [c2, c3, c4, c5], ha2, ⟨_, hdx2⟩, kn, rfl, ka, ?_⟩
    repeat tm_at "d"
    with_reducible refine' ev_fldX ?_ ?n0
    case n0 => rfl
    repeat tm_at "d"
    refine ⟨a, Cn, P0, dx, false, noNm n, .str n, rfl, ha2, hne, hdx2, eF, rfl, ?_⟩
    repeat tm_at "d"
    refine ix_al (d := .str n) hp2 (atI_nat (j := 0) rfl) ?_
    repeat tm_at "d"
    rw [decide_eq_true rfl]
    exact q _ e2
end

section
variable {P : Program} {w : World} {K : PySem.W.Frag} {mg : Str → Option Value} {base : Heap} {f : Addr} {fd : FuncData} {c1 c2 c3 c4 c5 P0 : Addr}
local macro_rules | `(tactic| tm_at "var") => `(tactic| first | ((with_reducible show EV _ _ _ (Expr.Name "_law_number_here" _) _); tm_at "v0") | ((with_reducible show EV _ _ _ (Expr.Name "_law_place" _) _); tm_at "v1") | ((with_reducible show EV _ _ _ (Expr.Name "_law_one" _) _); tm_at "v2"))
local macro_rules | `(tactic| tm_at "asg") => `(tactic| first | ((with_reducible show EX _ _ _ (Stmt.Assign [Expr.Name "_law_number_here" _] _ _) _); tm_at "a0") | ((with_reducible show EX _ _ _ (Stmt.Assign [Expr.Name "_law_place" _] _ _) _); tm_at "a1") | ((with_reducible show EX _ _ _ (Stmt.Assign [Expr.Name "_law_one" _] _ _) _); tm_at "a2"))
local macro_rules | `(tactic| tm_at "gvn") => `(tactic| first | ((with_reducible show GV _ _ _ (Expr.Name "_law_number_here" _) _ _); tm_at "g0") | ((with_reducible show GV _ _ _ (Expr.Name "_law_place" _) _ _); tm_at "g1") | ((with_reducible show GV _ _ _ (Expr.Name "_law_one" _) _ _); tm_at "g2"))
theorem ok_l_made (F : Fun K "_law_made" "_law_made" s_l_made f fd) (hIsi : mg "isinstance" = none) (hVE : mg "ValueError" = none) (k1 : Mkr P w K mg base 1 "NoName" c1 P0 ["name"]) (k2 : Mkr P w K mg base 1 "NoLoop" c2 P0 ["place"]) (k3 : Mkr P w K mg base 1 "NoMeasure" c3 P0 ["place"]) (k4 : Mkr P w K mg base 1 "NoText" c4 P0 ["line"]) (k5 : Mkr P w K mg base 1 "TooGreat" c5 P0 ["number", "most"]) (k0 : Mk0 P w K mg "KeepError" P0)
    (f1 : ErrF K c1 P0 "name") (f2 : ErrF K c2 P0 "place") (f3 : ErrF K c3 P0 "place") (f4 : ErrF K c4 P0 "line") (f5 : ErrF K c5 P0 "number") (f6 : ErrF K c5 P0 "most") (kn : X1.Knd K P0) (kv : PySem.W.kitOne K (.ref P0) (.type "ValueError") = some true) : FnOk P w K mg base CX0 3 f fd P_l_made (liftSp K spMade5) := by
  refine fn_D F sc_l_made (fun ds M Q ⟨a, b, h, _⟩ => by subst h; rfl) fun cdv A outer s H EE ds M Q hr h => ?_
  have nd := sc_l_made.nd
  obtain ⟨n, i, rfl, q⟩ := h
  refine exs_cons ?_
  repeat tm_at "d"
  with_reducible refine' ev_make ?n0 ?n1 ?n2 ?n3 ?_ ?n4 ?n5 ?n6 ?n7
  case n0 => exact k5
  case n1 => exact hr
  case n2 => decide
  case n3 => decide
  case n4 => rfl
  case n5 => decide
  case n6 => rfl
  case n7 => rfl
  repeat tm_at "d"
  refine ⟨rfl, fun a dx ha hdx hne => ?_⟩
  have hm1 : mset (mset M dx (.att ((["number", "most"] : List Str).zip [.int n, .int 3]))) a (.exc c5 (some dx) true) a = some (.exc c5 (some dx) true) := mset_same
  have hm2 : mset (mset M dx (.att ((["number", "most"] : List Str).zip [.int n, .int 3]))) a (.exc c5 (some dx) true) dx = some (.att [("number", .int n), ("most", .int 3)]) := by rw [mset_ne hne, mset_same]; rfl
  generalize mset (mset M dx (.att ((["number", "most"] : List Str).zip [.int n, .int 3]))) a (.exc c5 (some dx) true) = M1 at hm1 hm2 ⊢
  repeat first | tm_at "d" | refine exs_cons ?_
  with_reducible refine' ev_fldX ?_ ?n0
  case n0 => rfl
  repeat tm_at "d"
  refine ⟨a, c5, P0, dx, true, [("number", .int n), ("most", .int 3)], .int n, rfl, hm1, hne, hm2, f5, rfl, ?_⟩
  repeat tm_at "d"
  refine ifNn rfl ?_
  repeat tm_at "d"
  with_reducible refine' ev_fldX ?_ ?n0
  case n0 => rfl
  repeat tm_at "d"
  refine ⟨a, c5, P0, dx, true, [("number", .int n), ("most", .int 3)], .int 3, rfl, hm1, hne, hm2, f6, rfl, ?_⟩
  repeat tm_at "d"
  refine ifNn rfl ?_
  repeat tm_at "d"
  with_reducible refine' ev_fldX ?_ ?n0
  case n0 => rfl
  repeat tm_at "d"
  with_reducible refine' ev_make ?n0 ?n1 ?n2 ?n3 ?_ ?n4 ?n5 ?n6 ?n7
  case n0 => exact k1
  case n1 => exact hr
  case n2 => decide
  case n3 => decide
  case n4 => rfl
  case n5 => decide
  case n6 => rfl
  case n7 => rfl
  repeat tm_at "d"
  refine ⟨rfl, fun a1 dx1 ha1 hdx1 hne1 => ?_⟩
  refine ⟨a1, c1, P0, dx1, true, [("name", .str "q")], .str "q", rfl, mset_same, hne1, by rw [mset_ne hne1, mset_same]; rfl, f1, rfl, ?_⟩
  repeat tm_at "d"
  refine ifNn rfl ?_
  repeat tm_at "d"
  with_reducible refine' ev_fldX ?_ ?n0
  case n0 => rfl
  repeat tm_at "d"
  with_reducible refine' ev_make ?n0 ?n1 ?n2 ?n3 ?_ ?n4 ?n5 ?n6 ?n7
  case n0 => exact k4
  case n1 => exact hr
  case n2 => decide
  case n3 => decide
  case n4 => rfl
  case n5 => decide
  case n6 => rfl
  case n7 => rfl
  repeat tm_at "d"
  refine ⟨rfl, fun a2 dx2 ha2 hdx2 hne2 => ?_⟩
  refine ⟨a2, c4, P0, dx2, true, [("line", .int n)], .int n, rfl, mset_same, hne2, by rw [mset_ne hne2, mset_same]; rfl, f4, rfl, ?_⟩
  repeat tm_at "d"
  refine ifNn rfl ?_
  repeat tm_at "d"
  with_reducible refine' ev_fldX ?_ ?n0
  case n0 => rfl
  repeat tm_at "d"
  with_reducible refine' ev_make ?n0 ?n1 ?n2 ?n3 ?_ ?n4 ?n5 ?n6 ?n7
  case n0 => exact k2
  case n1 => exact hr
  case n2 => decide
  case n3 => decide
  case n4 => rfl
  case n5 => decide
  case n6 => rfl
  case n7 => rfl
  repeat tm_at "d"
  refine ⟨rfl, fun a3 dx3 ha3 hdx3 hne3 => ?_⟩
  refine ⟨a3, c2, P0, dx3, true, [("place", .tup [.int 1, .int i, .int 2])], .tup [.int 1, .int i, .int 2], rfl, mset_same, hne3, by rw [mset_ne hne3, mset_same]; rfl, f2, rfl, ?_⟩
  repeat tm_at "d"
  refine eq_same rfl (Nat.le_of_ble_eq_true rfl) ⟨_, rfl⟩ ?_
  repeat tm_at "d"
  with_reducible refine' ev_fldX ?_ ?n0
  case n0 => rfl
  repeat tm_at "d"
  with_reducible refine' ev_make ?n0 ?n1 ?n2 ?n3 ?_ ?n4 ?n5 ?n6 ?n7
  case n0 => exact k3
  case n1 => exact hr
  case n2 => decide
  case n3 => decide
  case n4 => rfl
  case n5 => decide
  case n6 => rfl
  case n7 => rfl
  repeat tm_at "d"
  refine ⟨rfl, fun a4 dx4 ha4 hdx4 hne4 => ?_⟩
  refine ⟨a4, c3, P0, dx4, true, [("place", .tup [.int 1, .int i, .int 2])], .tup [.int 1, .int i, .int 2], rfl, mset_same, hne4, by rw [mset_ne hne4, mset_same]; rfl, f3, rfl, ?_⟩
  repeat tm_at "d"
  refine eq_same rfl (Nat.le_of_ble_eq_true rfl) ⟨_, rfl⟩ ?_
  repeat tm_at "d"
  with_reducible refine' ev_isX ?n0 ?_ ?n1 ?n2 ?n3
  case n0 => exact hIsi
  case n1 => rfl
  case n2 => rfl
  case n3 => rfl
  repeat tm_at "d"
  with_reducible refine' ev_make0 ?n0 ?_ ?n4 ?n5 ?n6 ?n7
  case n0 => exact k0
  case n4 => rfl
  case n5 => decide
  case n6 => rfl
  case n7 => rfl
  repeat tm_at "d"
  refine ⟨by decide, fun a5 ha5 => ?_⟩
  repeat tm_at "d"
  with_reducible refine' ev_gty ?n0 ?n1 ?_ ?n2 ?n3 ?n4
  case n0 => exact hVE
  case n1 => exact bootVE
  case n2 => rfl
  case n3 => decide
  case n4 => decide
  repeat tm_at "d"
  refine ⟨a5, P0, none, true, true, mset_same, trivial, kn, .inr ⟨"ValueError", rfl, kv⟩, ?_⟩
  exact q _
end

-- needs: caught good5 made5
def spLaw : SpD := fun ds M Q => ∃ (l : Addr) (ns : List Int), ds = [.ref l] ∧ M l = some (.ro (ns.map D.int)) ∧ ns.length ≤ 63 ∧ (∀ n ∈ ns, Cell n) ∧ ∀ M', Q (.bl true) M'
theorem first_of {α : Type} {p : α → Bool} : ∀ {l : List α}, (∃ x ∈ l, p x = true) → ∃ x r, l.filter p = x :: r ∧ p x = true ∧ x ∈ l
  | [], h => by obtain ⟨x, hx, _⟩ := h; cases hx
  | a :: l, h => by
    by_cases ha : p a = true
    · exact ⟨a, l.filter p, by rw [List.filter_cons, if_pos ha], ha, List.mem_cons_self ..⟩
    · obtain ⟨x, hx, hp⟩ := h
      rcases List.mem_cons.mp hx with rfl | hx
      · exact absurd hp ha
      · obtain ⟨y, r, h1, h2, h3⟩ := first_of (l := l) ⟨x, hx, hp⟩
        exact ⟨y, r, by rw [List.filter_cons, if_neg ha]; exact h1, h2, List.mem_cons_of_mem _ h3⟩
def notIn (ss : List Str) : D → Bool
  | .str x => !decide (x ∈ ss)
  | _ => false
theorem spare_of {ss : List Str} (h : ss.length ≤ 3) : ∃ x r, (((Str.cps "qjxz").toList.map fun c => D.str ⟨#[c]⟩).filter (notIn ss)).map (fun d => d) = D.str x :: r ∧ x ∉ ss := by
  rw [List.map_id']
  have e : (Str.cps "qjxz").toList.map (fun c => D.str ⟨#[c]⟩) = [D.str ⟨#[113]⟩, .str ⟨#[106]⟩, .str ⟨#[120]⟩, .str ⟨#[122]⟩] := by
    have : (Str.cps "qjxz").toList = [113, 106, 120, 122] := by decide +kernel
    rw [this]; rfl
  rw [e]
  have h4 := spare4 (a := ⟨#[113]⟩) (b := ⟨#[106]⟩) (c := ⟨#[120]⟩) (d := ⟨#[122]⟩) (by decide) (by decide) (by decide) (by decide) (by decide) (by decide) h
  have hx : ∃ x ∈ [D.str ⟨#[113]⟩, .str ⟨#[106]⟩, .str ⟨#[120]⟩, .str ⟨#[122]⟩], notIn ss x = true := by
    refine Classical.byContradiction fun hn => h4 ⟨?_, ?_, ?_, ?_⟩
    · exact Classical.byContradiction fun z => hn ⟨.str ⟨#[113]⟩, by simp, by simp [notIn, z]⟩
    · exact Classical.byContradiction fun z => hn ⟨.str ⟨#[106]⟩, by simp, by simp [notIn, z]⟩
    · exact Classical.byContradiction fun z => hn ⟨.str ⟨#[120]⟩, by simp, by simp [notIn, z]⟩
    · exact Classical.byContradiction fun z => hn ⟨.str ⟨#[122]⟩, by simp, by simp [notIn, z]⟩
  obtain ⟨x, r, h1, h2, h3⟩ := first_of hx
  cases x with
  | str x => exact ⟨x, r, h1, by simpa [notIn] using h2⟩
  | non => cases h2
  | bl _ => cases h2
  | int _ => cases h2
  | ty _ => cases h2
  | tup _ => cases h2
  | ref _ => cases h2
theorem u128 {k : Nat} {A : Around} (r : Room k A) : A.units + 128 < cLine := by have := r.un; omega
theorem lkD_in {k : Str} {d : D} : ∀ {kvs : List (Str × D)}, lkD kvs k = some d → (k, d) ∈ kvs
  | [], h => by cases h
  | (x, e) :: r, h => by
    rw [lkD_cons] at h
    split at h
    · rename_i z; subst z; cases h; exact List.mem_cons_self ..
    · exact List.mem_cons_of_mem _ (lkD_in h)
/-- the point while it grows -/
structure Pt (spare : Str) (ss : List Str) (kvs : List (Str × D)) (i : Nat) : Prop where
  nd : (kvs.map (·.1)).Nodup
  sub : ∀ k ∈ kvs.map (·.1), k = spare ∨ k ∈ ss.take i
  frn : ∀ kv ∈ kvs, ∃ x y, Frn kv.2 x y
  len : kvs.length ≤ i + 1
theorem Pt.put {spare : Str} {ss : List Str} {kvs : List (Str × D)} {i : Nat} (h : Pt spare ss kvs i) (hs : spare ∉ ss) (hn : ss.Nodup) (hi : i < ss.length) {x y : Int} (hf : Frn (fr x y) x y) : lkD kvs ss[i] = none ∧ Pt spare ss (kvs ++ [(ss[i], fr x y)]) (i + 1) := by
  have htk : ss.take (i + 1) = ss.take i ++ [ss[i]] := by rw [List.take_add_one, List.getElem?_eq_getElem hi]; rfl
  have hk : ss[i] ∉ kvs.map (·.1) := fun z => by
    rcases h.sub _ z with z | z
    · exact hs (z ▸ List.getElem_mem hi)
    · have h5 : (ss.take (i + 1)).Nodup := List.Nodup.sublist (List.take_sublist _ _) hn
      rw [htk, List.nodup_append] at h5
      exact h5.2.2 _ z _ (List.mem_singleton.mpr rfl) rfl
  refine ⟨lkD_none hk, ?_, fun k hm => ?_, fun kv hm => ?_, ?_⟩
  · rw [List.map_append, List.nodup_append]
    exact ⟨h.nd, by simp, fun a ha b hb z => by rw [List.mem_singleton.mp hb] at z; have z : a = ss[i] := z; exact hk (z ▸ ha)⟩
  · rw [List.map_append] at hm
    rcases List.mem_append.mp hm with hm | hm
    · rcases h.sub k hm with z | z
      · exact .inl z
      · exact .inr (by rw [htk]; exact List.mem_append_left _ z)
    · rw [List.mem_singleton.mp hm]
      exact .inr (by rw [htk]; exact List.mem_append_right _ (List.mem_singleton.mpr rfl))
  · rcases List.mem_append.mp hm with hm | hm
    · exact h.frn kv hm
    · rw [List.mem_singleton.mp hm]; exact ⟨x, y, hf⟩
  · rw [List.length_append]; show _ + 1 ≤ _; have := h.len; omega
theorem Pt.more {spare : Str} {ss : List Str} {kvs : List (Str × D)} {i : Nat} (h : Pt spare ss kvs i) : Pt spare ss kvs (i + 1) :=
  ⟨h.nd, fun k hk => (h.sub k hk).imp id fun z => (List.take_sublist_take_left (Nat.le_succ i)).subset z, h.frn, by have := h.len; omega⟩
theorem Pt.fits {spare : Str} {ss : List Str} {kvs : List (Str × D)} {i : Nat} (h : Pt spare ss kvs i) {ts : List (Str × Int)} (ht : Terms ss ts) (h3 : ss.length ≤ 3) : Fits kvs ts := ⟨Nat.le_trans ht.len h3, fun t hm => (ht.wt t hm).2, fun s d e => h.frn _ (lkD_in e)⟩
theorem extA {M M' : MH} (h : Ext M M') : ExtA M M' := fun b o e _ => h b o e
theorem ExtA.trans {M M1 M2 : MH} (h : ExtA M M1) (k : ExtA M1 M2) : ExtA M M2 := fun b o e n => k b o (h b o e n) n
section
variable {P : Program} {w : World} {K : PySem.W.Frag} {mg : Str → Option Value} {base : Heap} {f : Addr} {fd : FuncData} {Cn : Addr}
local macro_rules | `(tactic| tm_at "var") => `(tactic| first | ((with_reducible show EV _ _ _ (Expr.Name "_law_script" _) _); tm_at "v0") | ((with_reducible show EV _ _ _ (Expr.Name "_law_names_here" _) _); tm_at "v1") | ((with_reducible show EV _ _ _ (Expr.Name "_law_spare" _) _); tm_at "v2") | ((with_reducible show EV _ _ _ (Expr.Name "_law_cell_here" _) _); tm_at "v3") | ((with_reducible show EV _ _ _ (Expr.Name "_law_number_here" _) _); tm_at "v4") | ((with_reducible show EV _ _ _ (Expr.Name "_law_purse_here" _) _); tm_at "v5") | ((with_reducible show EV _ _ _ (Expr.Name "_law_total" _) _); tm_at "v6") | ((with_reducible show EV _ _ _ (Expr.Name "_law_row_here" _) _); tm_at "v7") | ((with_reducible show EV _ _ _ (Expr.Name "_law_point" _) _); tm_at "v8") | ((with_reducible show EV _ _ _ (Expr.Name "_law_k" _) _); tm_at "v9") | ((with_reducible show EV _ _ _ (Expr.Name "_law_kept" _) _); tm_at "v10"))
local macro_rules | `(tactic| tm_at "asg") => `(tactic| first | ((with_reducible show EX _ _ _ (Stmt.Assign [Expr.Name "_law_script" _] _ _) _); tm_at "a0") | ((with_reducible show EX _ _ _ (Stmt.Assign [Expr.Name "_law_names_here" _] _ _) _); tm_at "a1") | ((with_reducible show EX _ _ _ (Stmt.Assign [Expr.Name "_law_spare" _] _ _) _); tm_at "a2") | ((with_reducible show EX _ _ _ (Stmt.Assign [Expr.Name "_law_cell_here" _] _ _) _); tm_at "a3") | ((with_reducible show EX _ _ _ (Stmt.Assign [Expr.Name "_law_number_here" _] _ _) _); tm_at "a4") | ((with_reducible show EX _ _ _ (Stmt.Assign [Expr.Name "_law_purse_here" _] _ _) _); tm_at "a5") | ((with_reducible show EX _ _ _ (Stmt.Assign [Expr.Name "_law_total" _] _ _) _); tm_at "a6") | ((with_reducible show EX _ _ _ (Stmt.Assign [Expr.Name "_law_row_here" _] _ _) _); tm_at "a7") | ((with_reducible show EX _ _ _ (Stmt.Assign [Expr.Name "_law_point" _] _ _) _); tm_at "a8") | ((with_reducible show EX _ _ _ (Stmt.Assign [Expr.Name "_law_k" _] _ _) _); tm_at "a9") | ((with_reducible show EX _ _ _ (Stmt.Assign [Expr.Name "_law_kept" _] _ _) _); tm_at "a10"))
local macro_rules | `(tactic| tm_at "gvn") => `(tactic| first | ((with_reducible show GV _ _ _ (Expr.Name "_law_script" _) _ _); tm_at "g0") | ((with_reducible show GV _ _ _ (Expr.Name "_law_names_here" _) _ _); tm_at "g1") | ((with_reducible show GV _ _ _ (Expr.Name "_law_spare" _) _ _); tm_at "g2") | ((with_reducible show GV _ _ _ (Expr.Name "_law_cell_here" _) _ _); tm_at "g3") | ((with_reducible show GV _ _ _ (Expr.Name "_law_number_here" _) _ _); tm_at "g4") | ((with_reducible show GV _ _ _ (Expr.Name "_law_purse_here" _) _ _); tm_at "g5") | ((with_reducible show GV _ _ _ (Expr.Name "_law_total" _) _ _); tm_at "g6") | ((with_reducible show GV _ _ _ (Expr.Name "_law_row_here" _) _ _); tm_at "g7") | ((with_reducible show GV _ _ _ (Expr.Name "_law_point" _) _ _); tm_at "g8") | ((with_reducible show GV _ _ _ (Expr.Name "_law_k" _) _ _); tm_at "g9") | ((with_reducible show GV _ _ _ (Expr.Name "_law_kept" _) _ _); tm_at "g10"))
theorem ok_law (F : Fun K "law" "law" s_law f fd) (h_len : mg "len" = none) (h_range : mg "range" = none) (h_dict : mg "dict" = none) (C_l_names : Cal P w K mg base 1 "_law_names" spNames) (C_l_cell : Cal P w K mg base 1 "_law_cell" spCell) (C_l_sum : Cal P w K mg base 4 "_law_sum" spSum) (C_l_row : Cal P w K mg base 4 "_law_row" spRow) (C_l_purse : Cal P w K mg base 1 "_law_purse" spPurse) (C_l_caught : Cal P w K mg base 6 "_law_caught" (spCaught Cn)) (C_l_good : Cal P w K mg base 1 "_law_good" (spGood5 Cn)) (C_l_made : Cal P w K mg base 3 "_law_made" spMade5) :
    FnOk P w K mg base CX0 7 f fd P_law (liftSp K spLaw) := by
  refine fn_D F sc_law (fun ds M Q ⟨a, b, e, _⟩ => by subst e; rfl) fun cdv A outer s H EE ds M Q hr h => ?_
  have nd := sc_law.nd
  obtain ⟨l, ns, rfl, hl, h63, hcell, q⟩ := h
  refine exs_cons ?_
  repeat tm_at "d"
  refine ⟨l, ns, _, rfl, hl, hcell, h63, by decide, fun c0 hc0 => ?_⟩
  repeat tm_at "d"
  refine ⟨_, rfl, hc0, fun ss M1 hss k1 => ?_⟩
  repeat tm_at "d"
  with_reducible refine' ev_comp_str (own := ["_law_letter"]) (js := [1]) (N := ["_law_letter", "_law_names_here"]) ?T ?xe ?ca (fun d => d) (notIn ss) ?_ ?hs
  case T => exact compOk_freeB (fs := ["_law_names_here"]) rfl (by decide +kernel) (by decide +kernel) rfl rfl rfl rfl rfl
  case xe => rfl
  case ca => rfl
  case hs => (intro _; rfl)
  repeat tm_at "d"
  refine ⟨_, rfl, by decide +kernel, by decide +kernel, ?_, ?_⟩
  · rintro Y ⟨C', s', H', fp, rfl⟩ M' hM c hc
    refine gv_name 0 (by show (["_law_letter", "_law_names_here"] : List Str).Nodup; decide +kernel) ?_
    refine ⟨rfl, fun i d e => ?_, ?_, fun _ => ?_⟩
    · rcases i with _ | i
      · simp [compG] at e
      · exact e
    · repeat first | (refine ev_var 0 ?_) | (refine ev_var 1 ?_) | tm_at "d"
      exact ⟨rfl, rfl⟩
    · refine ev_var 0 ?_
      exact ⟨rfl, rfl⟩
  intro p0 hp0
  obtain ⟨spare, rest, hsp, hspn⟩ := spare_of hss.le
  rw [hsp]
  repeat tm_at "d"
  refine ix_al (d := .str spare) mset_same (atI_nat (j := 0) rfl) ?_
  repeat tm_at "d"
  refine exs_cons (ex_for_list PassesOwn.never rfl ?_)
  repeat tm_at "d"
  intro p1 hp1
  repeat tm_at "d"
  refine ev_slice sl_list ?_
  repeat tm_at "d"
  refine ov_some ?_
  repeat tm_at "d"
  refine ov_some ?_
  repeat tm_at "d"
  have e1 : Ext M (mset (mset M1 p0 (.lst (D.str spare :: rest))) p1 (.lst [.int 0, .int 1, .int 2, .int 3])) := Ext.trans k1 (Ext.trans (ext_new hp0) (ext_new hp1))
  refine rs_list rfl (Or.inr (e1 _ _ hl)) fun p2 hp2 => ?_
  have ec : D3.cutD (ns.map D.int) (some 1) (some 40) = ((ns.take 40).drop 1).map D.int := cut_mid ns 1 40
  rw [ec]
  have hlen : ((ns.take 40).drop 1).length ≤ 39 := by rw [List.length_drop, List.length_take]; omega
  refine add_ll (mset_old hp2 mset_same) mset_same (by rw [List.length_map]; exact small (by show 4 + _ ≤ 1000; omega)) fun p3 hp3 => ?_
  have e4 : [D.int 0, .int 1, .int 2, .int 3] ++ ((ns.take 40).drop 1).map D.int = ([0, 1, 2, 3] ++ (ns.take 40).drop 1).map D.int := by rw [List.map_append] <;> rfl
  rw [e4]
  generalize hcs : [0, 1, 2, 3] ++ (ns.take 40).drop 1 = cs
  have hcc : ∀ c ∈ cs, Cell c := by
    intro c hc
    rw [← hcs] at hc
    rcases List.mem_append.mp hc with hc | hc
    · simp at hc
      rcases hc with rfl | rfl | rfl | rfl <;> exact Cell.of
    · exact hcell c (List.mem_of_mem_take (List.mem_of_mem_drop hc))
  have e3 : Ext M (mset (mset (mset (mset M1 p0 (.lst (D.str spare :: rest))) p1 (.lst [.int 0, .int 1, .int 2, .int 3])) p2 (.lst (((ns.take 40).drop 1).map D.int))) p3 (.lst (cs.map D.int))) := Ext.trans e1 (Ext.trans (ext_new hp2) (ext_new hp3))
  have m3 : mset (mset (mset (mset M1 p0 (.lst (D.str spare :: rest))) p1 (.lst [.int 0, .int 1, .int 2, .int 3])) p2 (.lst (((ns.take 40).drop 1).map D.int))) p3 (.lst (cs.map D.int)) p3 = some (.lst (cs.map D.int)) := mset_same
  generalize mset (mset (mset (mset M1 p0 (.lst (D.str spare :: rest))) p1 (.lst [.int 0, .int 1, .int 2, .int 3])) p2 (.lst (((ns.take 40).drop 1).map D.int))) p3 (.lst (cs.map D.int)) = M3 at e3 m3 ⊢
  have ml := e3 _ _ hl
  refine ⟨p3, cs.map D.int, fun i G' M' => ∃ r3 r4 r5 r6 r7 r8 r9 r10 : Option D, G' = [some (.ref l), some (nms ss), some (.str spare), r3, r4, r5, r6, r7, r8, r9, r10] ∧ ExtA M3 M', rfl, Or.inl m3, ⟨none, none, none, none, none, none, none, none, rfl, fun _ _ z _ => z⟩, ?_, ?_, ?_⟩
  · rintro i G' M' hi ⟨r3, r4, r5, r6, r7, r8, r9, r10, rfl, hM⟩
    rw [m3]; exact hM _ _ m3 (fun _ z => by cases z)
  · rintro i d G' M' hd ⟨r3, r4, r5, r6, r7, r8, r9, r10, rfl, hM⟩
    rw [List.getElem?_map] at hd
    cases hci : cs[i]? with
    | none => rw [hci] at hd; cases hd
    | some c =>
      rw [hci] at hd
      have hd : D.int c = d := by simpa using hd
      subst hd
      have bc := (hcc c (List.mem_of_getElem? hci)).bd
      refine gv_name 3 nd ?_
      refine exs_cons ?_
      repeat tm_at "d"
      refine ⟨_, rfl, Cell.of, fun p M6 hp pu k6 => ?_⟩
      obtain ⟨hn0, hn1⟩ := fmod_lt (a := c) (b := 56) (by decide)
      generalize c.fmod 56 = num at *
      repeat tm_at "d"
      refine ⟨p, ss, rfl, pu, hss.le, fun ts wh b M7 ht bw hb lb pu7 k7 => ?_⟩
      repeat tm_at "d"
      refine ⟨p, ss, rfl, pu7, hss.le, fun kk tr wr M8 htr bwr pu8 k8 => ?_⟩
      have e8 : Ext M' M8 := fun b o e => k8 b o (by simp; exact ne_fresh e hp) (k7 b o (by simp; exact ne_fresh e hp) (k6 b o e))
      repeat tm_at "d"
      refine ev_dict1 fun d0 hd0 => ?_
      repeat tm_at "d"
      refine ⟨spare, rfl, mset_same, ?_⟩
      rw [mset_mset]
      refine exs_cons (ex_for_range PassesOwn.never rfl h_range ?_)
      repeat tm_at "d"
      refine ⟨_, _, rfl, rfl, ?_⟩
      rw [List.length_map]
      repeat tm_at "d"
      have h3 := hss.le
      refine ⟨_, fun i G' M' => ∃ (kvs : List (Str × D)) (r9 r10 : Option D), G' = [some (.ref l), some (nms ss), some (.str spare), some (.int c), some (.int num), some (.ref p), some (.tup [trm ts, .int wh, .int b]), some (rowD kk tr wr), some (.ref d0), r9, r10] ∧ M' d0 = some (.dic kvs) ∧ Pt spare ss kvs i ∧ Ext M8 M', rfl, by omega, by omega,
        ⟨[(spare, .tup [.int 1, .int 2])], _, _, rfl, mset_same, ⟨by simp, by simp, by
          intro kv hkv
          rw [List.mem_singleton.mp hkv]
          exact ⟨1, 2, rfl, by decide, by decide, by unfold B; decide, by unfold B; decide⟩, by simp⟩, ext_new hd0⟩, ?_, ?_⟩
      · rintro j G2 M2 hj ⟨kvs, r9, r10, rfl, hd, hpt, hM2⟩
        have hj : j < ss.length := by omega
        repeat tm_at "d"
        intro pl hpl
        repeat tm_at "d"
        obtain ⟨v, hv, hv1, hv4⟩ : ∃ v : Int, atI [D.int 1, .int 2, .int 4] (j : Int) = some (.int v) ∧ 1 ≤ v ∧ v ≤ 4 := by
          have hj3 : j < 3 := by omega
          match j, hj3 with
          | 0, _ => exact ⟨1, rfl, by decide, by decide⟩
          | 1, _ => exact ⟨2, rfl, by decide, by decide⟩
          | 2, _ => exact ⟨4, rfl, by decide, by decide⟩
        refine ix_al (d := .int v) mset_same hv ?_
        have bn : Bd num 10 := .rng (by omega) (by omega)
        have bv : Bd v 10 := .rng (by omega) (by omega)
        repeat tm_at "d"
        refine ifD ?_ ?_
        · intro _
          repeat tm_at "d"
          refine ix_at (d := .str ss[j]) (atI_nat (by rw [List.getElem?_map, List.getElem?_eq_getElem hj] <;> rfl)) ?_
          refine set_dl (mset_old hpl hd) (small1000 (by have := hpt.len; omega)) ?_
          obtain ⟨h70, h71⟩ := fmod_lt (a := num) (b := 7) (by decide)
          generalize num.fmod 7 = m7 at *
          have b7 : Bd m7 134 := .rng (by omega) (by omega)
          obtain ⟨hnew, hpt'⟩ := hpt.put hspn hss.nodup hj (x := m7) (y := 1) ⟨rfl, by decide, by rw [Int.gcd_one], b7.b, by unfold B; decide⟩
          rw [putD_new hnew]
          exact ⟨_, _, _, rfl, mset_same, hpt', fun b o e => by rw [mset_ne (ne_fresh e hd0)]; exact mset_old hpl (hM2 _ _ e)⟩
        · intro _
          refine exs_nil ?_
          exact ⟨kvs, _, _, rfl, mset_old hpl hd, hpt.more, Ext.trans hM2 (ext_new hpl)⟩
      · rintro G2 M2 ⟨kvs, r9, r10, rfl, hd, hpt, hM2⟩
        repeat tm_at "d"
        refine ⟨d0, kvs, rfl, hd, fun k0 hk0 => ?_⟩
        have e10 : ExtA M3 (mset M2 k0 (.dic kvs)) := ExtA.trans hM (extA (Ext.trans e8 (Ext.trans hM2 (ext_new hk0))))
        have hd10 : mset M2 k0 (.dic kvs) d0 = some (.dic kvs) := mset_old hk0 hd
        have hk10 : mset M2 k0 (.dic kvs) k0 = some (.dic kvs) := mset_same
        generalize mset M2 k0 (.dic kvs) = M10 at e10 hd10 hk10 ⊢
        have nat : ∀ {kvs : List (Str × D)} (fs : List (Str × D)), MO.dic kvs ≠ .att fs := fun _ z => by cases z
        have fS := hpt.fits ht h3
        have fR := hpt.fits htr h3
        have oS : ∀ t ∈ ts, PyData.strOk t.1 = true := fun t h => str_letter (hss.lett _ (ht.mem h))
        have oR : ∀ t ∈ tr, PyData.strOk t.1 = true := fun t h => str_letter (hss.lett _ (htr.mem h))
        refine exs_join (fun G' M' => G' = [some (.ref l), some (nms ss), some (.str spare), some (.int c), some (.int num), some (.ref p), some (.tup [trm ts, .int wh, .int b]), some (rowD kk tr wr), some (.ref d0), r9, some (.ref k0)] ∧ ExtA M10 M') ?_ ?_
        · repeat tm_at "d"
          refine ⟨0, ts, wh, b, kk, tr, wr, d0, kvs, rfl, hd10, fS, fR, bw, hb, lb, B.up (by decide) bwr, .inl rfl, fun hnil => ?_, fun n r hn a dx M11 k11 ha hdx hne => ?_⟩
          · repeat tm_at "d"
            refine ⟨.non, ts, d0, kvs, rfl, hd10, fS.1, oS, .inl ⟨rfl, hnil⟩, fun M12 k12 => ?_⟩
            refine ⟨_, rfl, ?_⟩
            refine ifNT ?_
            repeat tm_at "d"
            exact ⟨rfl, extA k12⟩
          · repeat tm_at "d"
            refine ⟨.ref a, ts, d0, kvs, rfl, k11 _ _ hd10 nat, fS.1, oS, .inr ⟨a, dx, n, r, rfl, ha, hdx, hne, hn⟩, fun M12 k12 => ?_⟩
            refine ⟨_, rfl, ?_⟩
            refine ifNT ?_
            repeat tm_at "d"
            exact ⟨rfl, ExtA.trans k11 (extA k12)⟩
        rintro G5 M5 ⟨rfl, hM5⟩
        have hd5 := hM5 _ _ hd10 nat
        have hk5 := hM5 _ _ hk10 nat
        have e5 := ExtA.trans e10 hM5
        clear hM5 hd10 hk10 e10
        repeat tm_at "d"
        refine ⟨1, ts, wh, b, kk, tr, wr, d0, kvs, rfl, hd5, fS, fR, bw, hb, lb, B.up (by decide) bwr, .inr rfl, fun hnil => ?_, fun n r hn a dx M11 k11 ha hdx hne => ?_⟩
        · rw [if_neg (by decide)] at hnil
          repeat tm_at "d"
          refine ⟨.non, tr, d0, kvs, rfl, hd5, fR.1, oR, .inl ⟨rfl, hnil⟩, fun M12 k12 => ?_⟩
          refine ⟨_, rfl, ?_⟩
          refine ifNT ?_
          refine tw_or1 ?_
          refine lt_neDic (u128 hr) ?_
          repeat tm_at "d"
          refine ⟨d0, k0, kvs, rfl, rfl, k12 _ _ ( hd5), k12 _ _ ( hk5), fun k d hkd => ?_, ?_⟩
          · refine ⟨lkD_mem hpt.nd hkd, ?_⟩
            obtain ⟨x, y, h3⟩ := hpt.frn _ hkd
            have h3 : d = fr x y := h3.1
            rw [h3]
            exact ⟨rfl, Nat.le_of_ble_eq_true rfl⟩
          repeat tm_at "d"
          exact ⟨_, _, _, _, _, _, _, _, rfl, ExtA.trans e5 (extA k12)⟩
        · rw [if_neg (by decide)] at hn
          repeat tm_at "d"
          refine ⟨.ref a, tr, d0, kvs, rfl, k11 _ _ hd5 nat, fR.1, oR, .inr ⟨a, dx, n, r, rfl, ha, hdx, hne, hn⟩, fun M12 k12 => ?_⟩
          refine ⟨_, rfl, ?_⟩
          refine ifNT ?_
          refine tw_or1 ?_
          refine lt_neDic (u128 hr) ?_
          repeat tm_at "d"
          refine ⟨d0, k0, kvs, rfl, rfl, k12 _ _ (k11 _ _ hd5 nat), k12 _ _ (k11 _ _ hk5 nat), fun k d hkd => ?_, ?_⟩
          · refine ⟨lkD_mem hpt.nd hkd, ?_⟩
            obtain ⟨x, y, h3⟩ := hpt.frn _ hkd
            have h3 : d = fr x y := h3.1
            rw [h3]
            exact ⟨rfl, Nat.le_of_ble_eq_true rfl⟩
          repeat tm_at "d"
          exact ⟨_, _, _, _, _, _, _, _, rfl, ExtA.trans e5 (ExtA.trans k11 (extA k12))⟩
  · rintro G' M' ⟨r3, r4, r5, r6, r7, r8, r9, r10, rfl, hM⟩
    have ml' := hM _ _ ml (fun _ z => by cases z)
    repeat tm_at "d"
    refine ⟨l, ns, _, rfl, ml', hcell, h63, by decide, fun c1 hc1 => ?_⟩
    repeat tm_at "d"
    repeat tm_at "d"
    refine ⟨l, ns, _, rfl, ml', hcell, h63, by decide, fun c2 hc2 => ?_⟩
    repeat tm_at "d"
    exact ⟨_, _, rfl, fun M' => q M'⟩
end
theorem lawSp : LawSp spLaw := fun l ns M Q h1 h2 h3 q => ⟨l, ns, rfl, h1, h2, h3, q⟩

end K05

namespace K05
open PySem PySem.Spec PyProof.Rows L2 D3 K01 KA
structure Txt (K : PySem.W.Frag) (p0 c1 c2 c3 c4 c5 : Addr) : Prop where
  a_common_divisor : At K "common_divisor" s_common_divisor
  a_l_purse : At K "_law_purse" s_l_purse
  a_l_take : At K "_law_take" s_l_take
  a_l_cell : At K "_law_cell" s_l_cell
  a_l_number : At K "_law_number" s_l_number
  a_l_terms : At K "_law_terms" s_l_terms
  a_l_sum : At K "_law_sum" s_l_sum
  a_l_names : At K "_law_names" s_l_names
  a_l_row : At K "_law_row" s_l_row
  a_plus : At K "plus" s_plus
  a_times : At K "times" s_times
  a_must_have_names : At K "must_have_names" s_must_have_names
  a_worth : At K "worth" s_worth
  a_added_up : At K "added_up" s_added_up
  a_is_so : At K "is_so" s_is_so
  a_l_caught : At K "_law_caught" s_l_caught
  a_l_good : At K "_law_good" s_l_good
  a_l_made : At K "_law_made" s_l_made
  a_law : At K "law" s_law
  g_LONG : ∃ v, PySem.W.nsIn K mainGlobals "LONG" = some (some v) ∧ RelV (.int 8192) v
  z_max : PySem.W.nsIn K mainGlobals "max" = some none
  z_min : PySem.W.nsIn K mainGlobals "min" = some none
  z_range : PySem.W.nsIn K mainGlobals "range" = some none
  z_abs : PySem.W.nsIn K mainGlobals "abs" = some none
  z_int : PySem.W.nsIn K mainGlobals "int" = some none
  z_len : PySem.W.nsIn K mainGlobals "len" = some none
  z_tuple : PySem.W.nsIn K mainGlobals "tuple" = some none
  z_sorted : PySem.W.nsIn K mainGlobals "sorted" = some none
  z_dict : PySem.W.nsIn K mainGlobals "dict" = some none
  z_isinstance : PySem.W.nsIn K mainGlobals "isinstance" = some none
  z_ValueError : PySem.W.nsIn K mainGlobals "ValueError" = some none
  k_NoName : ClsT K "NoName" "NoName.__init__" s_NoName_init c1 p0
  f_NoName_name : PySem.W.findIn K (.ref c1) "name" = some none
  k_NoLoop : ClsT K "NoLoop" "NoLoop.__init__" s_NoLoop_init c2 p0
  f_NoLoop_place : PySem.W.findIn K (.ref c2) "place" = some none
  k_NoMeasure : ClsT K "NoMeasure" "NoMeasure.__init__" s_NoMeasure_init c3 p0
  f_NoMeasure_place : PySem.W.findIn K (.ref c3) "place" = some none
  k_NoText : ClsT K "NoText" "NoText.__init__" s_NoText_init c4 p0
  f_NoText_line : PySem.W.findIn K (.ref c4) "line" = some none
  k_TooGreat : ClsT K "TooGreat" "TooGreat.__init__" s_TooGreat_init c5 p0
  f_TooGreat_number : PySem.W.findIn K (.ref c5) "number" = some none
  f_TooGreat_most : PySem.W.findIn K (.ref c5) "most" = some none
  p_ns : PySem.W.nsIn K mainGlobals "KeepError" = some (some (.ref p0))
  p_kp : PySem.W.keepIn K (.ref p0) = true
  p_er : ∃ nm q N bs sn sub ab col dd k0 k1 k2 k3 k5 es ep oc od sl, K.lookup p0 = some (excClassObj nm q p0 N bs X1.VE true sn sub ab col dd k0 k1 k2 k3 k5 "ValueError.__new__") ∧ K.lookup N = some ⟨oc, od, .dict es ep, sl⟩ ∧ StrKeys es ∧ nsFind es "__init__" = none
  n_c1 : X1.Knd K c1
  n_p0 : X1.Knd K p0
  s_c1 : PySem.W.subIn K (.ref c1) (.type "ValueError") = some true
  s_p0 : PySem.W.subIn K (.ref p0) (.type "ValueError") = some true
  d_c2 : c1 ≠ c2
  t_c2 : PySem.W.typeIn K (.ref c2) = some (.type "type")
  u_c2 : PySem.W.subIn K (.ref c1) (.ref c2) = some false
  d_c3 : c1 ≠ c3
  t_c3 : PySem.W.typeIn K (.ref c3) = some (.type "type")
  u_c3 : PySem.W.subIn K (.ref c1) (.ref c3) = some false
  d_c4 : c1 ≠ c4
  t_c4 : PySem.W.typeIn K (.ref c4) = some (.type "type")
  u_c4 : PySem.W.subIn K (.ref c1) (.ref c4) = some false
  d_c5 : c1 ≠ c5
  t_c5 : PySem.W.typeIn K (.ref c5) = some (.type "type")
  u_c5 : PySem.W.subIn K (.ref c1) (.ref c5) = some false
theorem all_mk {P : Program} {w : World} {K : PySem.W.Frag} {h : Heap} {mg : Str → Option Value} {fa p0 c1 c2 c3 c4 c5 : Addr} (T : Txt K p0 c1 c2 c3 c4 c5) (X : K.In h) (G : h.Ns mainGlobals mg) (hfa : mg "law" = some (.ref fa)) :
    ∃ fd : FuncData, (∀ (s : Shared) (v : Value), BindsTo s fd ⟨[v], []⟩ [("_law_script", v)]) ∧ ∀ base : Heap, K.In base → base.Ns mainGlobals mg → FnOk P w K mg base CX0 7 fa fd P_law (liftSp K spLaw) := by
  obtain ⟨f_common_divisor, d_common_divisor, F_common_divisor, m_common_divisor⟩ := T.a_common_divisor.get X G
  obtain ⟨f_l_purse, d_l_purse, F_l_purse, m_l_purse⟩ := T.a_l_purse.get X G
  obtain ⟨f_l_take, d_l_take, F_l_take, m_l_take⟩ := T.a_l_take.get X G
  obtain ⟨f_l_cell, d_l_cell, F_l_cell, m_l_cell⟩ := T.a_l_cell.get X G
  obtain ⟨f_l_number, d_l_number, F_l_number, m_l_number⟩ := T.a_l_number.get X G
  obtain ⟨f_l_terms, d_l_terms, F_l_terms, m_l_terms⟩ := T.a_l_terms.get X G
  obtain ⟨f_l_sum, d_l_sum, F_l_sum, m_l_sum⟩ := T.a_l_sum.get X G
  obtain ⟨f_l_names, d_l_names, F_l_names, m_l_names⟩ := T.a_l_names.get X G
  obtain ⟨f_l_row, d_l_row, F_l_row, m_l_row⟩ := T.a_l_row.get X G
  obtain ⟨f_plus, d_plus, F_plus, m_plus⟩ := T.a_plus.get X G
  obtain ⟨f_times, d_times, F_times, m_times⟩ := T.a_times.get X G
  obtain ⟨f_must_have_names, d_must_have_names, F_must_have_names, m_must_have_names⟩ := T.a_must_have_names.get X G
  obtain ⟨f_worth, d_worth, F_worth, m_worth⟩ := T.a_worth.get X G
  obtain ⟨f_added_up, d_added_up, F_added_up, m_added_up⟩ := T.a_added_up.get X G
  obtain ⟨f_is_so, d_is_so, F_is_so, m_is_so⟩ := T.a_is_so.get X G
  obtain ⟨f_l_caught, d_l_caught, F_l_caught, m_l_caught⟩ := T.a_l_caught.get X G
  obtain ⟨f_l_good, d_l_good, F_l_good, m_l_good⟩ := T.a_l_good.get X G
  obtain ⟨f_l_made, d_l_made, F_l_made, m_l_made⟩ := T.a_l_made.get X G
  obtain ⟨f_law, d_law, F_law, m_law⟩ := T.a_law.get X G
  have e := hfa.symm.trans m_law
  cases e
  obtain ⟨v_LONG, hv_LONG, t_LONG, rfl⟩ := T.g_LONG
  have g_LONG : mg "LONG" = some (.int 8192 t_LONG) := PySem.W.mg_of X G hv_LONG
  have z_max : mg "max" = none := PySem.W.mg_none_of X G T.z_max
  have z_min : mg "min" = none := PySem.W.mg_none_of X G T.z_min
  have z_range : mg "range" = none := PySem.W.mg_none_of X G T.z_range
  have z_abs : mg "abs" = none := PySem.W.mg_none_of X G T.z_abs
  have z_int : mg "int" = none := PySem.W.mg_none_of X G T.z_int
  have z_len : mg "len" = none := PySem.W.mg_none_of X G T.z_len
  have z_tuple : mg "tuple" = none := PySem.W.mg_none_of X G T.z_tuple
  have z_sorted : mg "sorted" = none := PySem.W.mg_none_of X G T.z_sorted
  have z_dict : mg "dict" = none := PySem.W.mg_none_of X G T.z_dict
  have z_isinstance : mg "isinstance" = none := PySem.W.mg_none_of X G T.z_isinstance
  have z_ValueError : mg "ValueError" = none := PySem.W.mg_none_of X G T.z_ValueError
  have b_common_divisor := F_common_divisor.binds (ps := P_common_divisor) fun _ _ _ _ _ _ us hl => match us, hl with | [_, _], _ => rfl
  have b_l_purse := F_l_purse.binds (ps := P_l_purse) fun _ _ _ _ _ _ us hl => match us, hl with | [_], _ => rfl
  have b_l_take := F_l_take.binds (ps := P_l_take) fun _ _ _ _ _ _ us hl => match us, hl with | [_, _], _ => rfl
  have b_l_cell := F_l_cell.binds (ps := P_l_cell) fun _ _ _ _ _ _ us hl => match us, hl with | [_, _], _ => rfl
  have b_l_number := F_l_number.binds (ps := P_l_number) fun _ _ _ _ _ _ us hl => match us, hl with | [_], _ => rfl
  have b_l_terms := F_l_terms.binds (ps := P_l_terms) fun _ _ _ _ _ _ us hl => match us, hl with | [_, _], _ => rfl
  have b_l_sum := F_l_sum.binds (ps := P_l_sum) fun _ _ _ _ _ _ us hl => match us, hl with | [_, _], _ => rfl
  have b_l_names := F_l_names.binds (ps := P_l_names) fun _ _ _ _ _ _ us hl => match us, hl with | [_], _ => rfl
  have b_l_row := F_l_row.binds (ps := P_l_row) fun _ _ _ _ _ _ us hl => match us, hl with | [_, _], _ => rfl
  have b_plus := F_plus.binds (ps := P_plus) fun _ _ _ _ _ _ us hl => match us, hl with | [_, _], _ => rfl
  have b_times := F_times.binds (ps := P_times) fun _ _ _ _ _ _ us hl => match us, hl with | [_, _], _ => rfl
  have b_must_have_names := F_must_have_names.binds (ps := P_must_have_names) fun _ _ _ _ _ _ us hl => match us, hl with | [_, _], _ => rfl
  have b_worth := F_worth.binds (ps := P_worth) fun _ _ _ _ _ _ us hl => match us, hl with | [_, _], _ => rfl
  have b_added_up := F_added_up.binds (ps := P_added_up) fun _ _ _ _ _ _ us hl => match us, hl with | [_, _], _ => rfl
  have b_is_so := F_is_so.binds (ps := P_is_so) fun _ _ _ _ _ _ us hl => match us, hl with | [_, _], _ => rfl
  have b_l_caught := F_l_caught.binds (ps := P_l_caught) fun _ _ _ _ _ _ us hl => match us, hl with | [_, _, _, _], _ => rfl
  have b_l_good := F_l_good.binds (ps := P_l_good) fun _ _ _ _ _ _ us hl => match us, hl with | [_, _, _], _ => rfl
  have b_l_made := F_l_made.binds (ps := P_l_made) fun _ _ _ _ _ _ us hl => match us, hl with | [_, _], _ => rfl
  obtain ⟨nm, q, N, bs, sn, sub, ab, col, dd, k0, k1, k2, k3, k5, es, ep, oc, od, sl, lP, lN, sk, ni⟩ := T.p_er
  have e0 : X1.Err0 K p0 := ⟨⟨_, _, _, _, _, _, _, _, _, _, _, _, _, _, _, lP⟩⟩
  have mP : mg "KeepError" = some (.ref p0) := PySem.W.mg_of X G T.p_ns
  have x_NoName_name := T.k_NoName.fld T.f_NoName_name
  have x_NoLoop_place := T.k_NoLoop.fld T.f_NoLoop_place
  have x_NoMeasure_place := T.k_NoMeasure.fld T.f_NoMeasure_place
  have x_NoText_line := T.k_NoText.fld T.f_NoText_line
  have x_TooGreat_number := T.k_TooGreat.fld T.f_TooGreat_number
  have x_TooGreat_most := T.k_TooGreat.fld T.f_TooGreat_most
  refine ⟨d_law, ?_, fun base _ _ => ?_⟩
  · obtain ⟨oc, od, kV, doc, pm, an, cdv, ct, osl, rfl, _, _⟩ := F_law.ex
    exact fun s v => .of_eq rfl
  have C_common_divisor : Cal P w K mg base 1 "common_divisor" (spCd) := cal_D F_common_divisor (ok_common_divisor F_common_divisor z_max z_min g_LONG) b_common_divisor m_common_divisor
  have C_l_purse : Cal P w K mg base 1 "_law_purse" (spPurse) := cal_D F_l_purse (ok_l_purse F_l_purse z_range z_abs) b_l_purse m_l_purse
  have C_l_take : Cal P w K mg base 1 "_law_take" (spTake) := cal_D F_l_take (ok_l_take F_l_take z_int) b_l_take m_l_take
  have C_l_cell : Cal P w K mg base 1 "_law_cell" (spCell) := cal_D F_l_cell (ok_l_cell F_l_cell z_len) b_l_cell m_l_cell
  have C_l_number : Cal P w K mg base 2 "_law_number" (spNumber) := cal_D F_l_number (ok_l_number F_l_number C_l_take) b_l_number m_l_number
  have C_l_terms : Cal P w K mg base 3 "_law_terms" (spTerms) := cal_D F_l_terms (ok_l_terms F_l_terms z_tuple C_l_number) b_l_terms m_l_terms
  have C_l_sum : Cal P w K mg base 4 "_law_sum" (spSum) := cal_D F_l_sum (ok_l_sum F_l_sum C_l_take C_l_terms C_l_number) b_l_sum m_l_sum
  have C_l_names : Cal P w K mg base 1 "_law_names" (spNames) := cal_D F_l_names (ok_l_names F_l_names z_tuple z_sorted z_range) b_l_names m_l_names
  have C_l_row : Cal P w K mg base 4 "_law_row" (spRow) := cal_D F_l_row (ok_l_row F_l_row C_l_take C_l_terms C_l_number) b_l_row m_l_row
  have C_plus : Cal P w K mg base 2 "plus" ((spArL gPlus)) := cal_D F_plus (ok_plus F_plus z_abs C_common_divisor) b_plus m_plus
  have C_times : Cal P w K mg base 2 "times" ((spArL gTimes)) := cal_D F_times (ok_times F_times z_abs C_common_divisor) b_times m_times
  have r_NoName : Mkr P w K mg base 1 "NoName" c1 p0 ["name"] := T.k_NoName.mkr (ps := P_NoName_init) X G (fun _ _ F => ok_NoName_init F x_NoName_name) fun _ _ F => F.binds fun _ _ _ _ _ _ us hl => match us, hl with | [_, _], _ => rfl
  have r_NoLoop : Mkr P w K mg base 1 "NoLoop" c2 p0 ["place"] := T.k_NoLoop.mkr (ps := P_NoLoop_init) X G (fun _ _ F => ok_NoLoop_init F x_NoLoop_place) fun _ _ F => F.binds fun _ _ _ _ _ _ us hl => match us, hl with | [_, _], _ => rfl
  have r_NoMeasure : Mkr P w K mg base 1 "NoMeasure" c3 p0 ["place"] := T.k_NoMeasure.mkr (ps := P_NoMeasure_init) X G (fun _ _ F => ok_NoMeasure_init F x_NoMeasure_place) fun _ _ F => F.binds fun _ _ _ _ _ _ us hl => match us, hl with | [_, _], _ => rfl
  have r_NoText : Mkr P w K mg base 1 "NoText" c4 p0 ["line"] := T.k_NoText.mkr (ps := P_NoText_init) X G (fun _ _ F => ok_NoText_init F x_NoText_line) fun _ _ F => F.binds fun _ _ _ _ _ _ us hl => match us, hl with | [_, _], _ => rfl
  have r_TooGreat : Mkr P w K mg base 1 "TooGreat" c5 p0 ["number", "most"] := T.k_TooGreat.mkr (ps := P_TooGreat_init) X G (fun _ _ F => ok_TooGreat_init F x_TooGreat_number x_TooGreat_most) fun _ _ F => F.binds fun _ _ _ _ _ _ us hl => match us, hl with | [_, _, _], _ => rfl
  have r_0 : Mk0 P w K mg "KeepError" p0 := ⟨⟨nm, q, N, bs, sn, sub, ab, col, dd, k0, k1, k2, k3, k5, nsFind es, lP, fun h X => ⟨_, es, ep, X _ _ lN, rfl, sk, fun _ => rfl⟩, ni⟩, mP, T.p_kp⟩
  have D_must : CalX P w K mg base 3 "must_have_names" (spMustX c1) := cal_X F_must_have_names (ok_must_have_names F_must_have_names r_NoName) b_must_have_names m_must_have_names
  have D_worth : CalX P w K mg base 4 "worth" (spWorthX c1) := cal_X F_worth (ok_worth F_worth D_must C_plus C_times) b_worth m_worth
  have D_added : CalX P w K mg base 4 "added_up" (spAddedX c1) := cal_X F_added_up (ok_added_up F_added_up D_must) b_added_up m_added_up
  have D_so : CalX P w K mg base 5 "is_so" (spIsSoX c1) := cal_X F_is_so (ok_is_so F_is_so D_added) b_is_so m_is_so
  have C_l_caught : Cal P w K mg base 6 "_law_caught" (spCaught c1) := cal_D F_l_caught (ok_l_caught F_l_caught D_worth D_so T.k_NoName.er e0 mP) b_l_caught m_l_caught
  have ka := kit_four (kit_no T.d_c2 T.k_NoLoop.er.g T.t_c2 T.u_c2) (kit_no T.d_c3 T.k_NoMeasure.er.g T.t_c3 T.u_c3) (kit_no T.d_c4 T.k_NoText.er.g T.t_c4 T.u_c4) (kit_no T.d_c5 T.k_TooGreat.er.g T.t_c5 T.u_c5)
  have C_l_good : Cal P w K mg base 1 "_law_good" (spGood5 c1) := cal_D F_l_good (ok_l_good F_l_good z_isinstance z_ValueError (PySem.W.mg_of X G T.k_NoName.ns) (PySem.W.mg_of X G T.k_NoLoop.ns) (PySem.W.mg_of X G T.k_NoMeasure.ns) (PySem.W.mg_of X G T.k_NoText.ns) (PySem.W.mg_of X G T.k_TooGreat.ns) T.n_c1 x_NoName_name (kit_ty T.s_c1) ka) b_l_good m_l_good
  have C_l_made : Cal P w K mg base 3 "_law_made" spMade5 := cal_D F_l_made (ok_l_made F_l_made z_isinstance z_ValueError r_NoName r_NoLoop r_NoMeasure r_NoText r_TooGreat r_0 x_NoName_name x_NoLoop_place x_NoMeasure_place x_NoText_line x_TooGreat_number x_TooGreat_most T.n_p0 (kit_ty T.s_p0)) b_l_made m_l_made
  exact ok_law F_law z_len z_range z_dict C_l_names C_l_cell C_l_sum C_l_row C_l_purse C_l_caught C_l_good C_l_made
end K05
open PySem PySem.W PyProof.Rows
set_option maxRecDepth 100000 in
set_option maxHeartbeats 0 in
theorem PySem.Challenge.cw_notekeep_k05_no_name_holds : PySem.Challenge.rw_notekeep_k05_no_name.Holds := by
  w_on; o_law; k_head; (case hw => w_witness2)
  k_fill
  refine D3.walk_D (l := PySem.Challenge.rw_notekeep_k05_no_name) (k := 7) (sp := K05.spLaw) (x := "_law_script") rfl rfl ⟨rfl, by decide, by decide⟩ K05.lawSp (fun w h Y => PySem.W.kIn_of Y) ?F
  case F =>
    intro w mg fa h KX G hmg
    obtain ⟨p0, c1, c2, c3, c4, c5, T⟩ : ∃ p0 c1 c2 c3 c4 c5, K05.Txt (L2.KOf KX) p0 c1 c2 c3 c4 c5 := by
      dsimp only [L2.KOf]
      refine' ⟨_, _, _, _, _, _, KA.At.mk ?a0 ?l0 ?c0 ?k0, KA.At.mk ?a1 ?l1 ?c1 ?k1, KA.At.mk ?a2 ?l2 ?c2 ?k2, KA.At.mk ?a3 ?l3 ?c3 ?k3, KA.At.mk ?a4 ?l4 ?c4 ?k4, KA.At.mk ?a5 ?l5 ?c5 ?k5, KA.At.mk ?a6 ?l6 ?c6 ?k6, KA.At.mk ?a7 ?l7 ?c7 ?k7, KA.At.mk ?a8 ?l8 ?c8 ?k8, KA.At.mk ?a9 ?l9 ?c9 ?k9, KA.At.mk ?a10 ?l10 ?c10 ?k10, KA.At.mk ?a11 ?l11 ?c11 ?k11, KA.At.mk ?a12 ?l12 ?c12 ?k12, KA.At.mk ?a13 ?l13 ?c13 ?k13, KA.At.mk ?a14 ?l14 ?c14 ?k14, KA.At.mk ?a15 ?l15 ?c15 ?k15, KA.At.mk ?a16 ?l16 ?c16 ?k16, KA.At.mk ?a17 ?l17 ?c17 ?k17, KA.At.mk ?a18 ?l18 ?c18 ?k18, ⟨?t0, ?u0, ?r0⟩, ?z0, ?z1, ?z2, ?z3, ?z4, ?z5, ?z6, ?z7, ?z8, ?z9, ?z10, KA.ClsT.mk' ?y0_0 ?y0_1 ?y0_2 ?y0_3 ?y0_4 ?y0_5 ?y0_6 ?y0_7 ?y0_8 ?y0_9 ?y0_10, ?g_NoName_name, KA.ClsT.mk' ?y1_0 ?y1_1 ?y1_2 ?y1_3 ?y1_4 ?y1_5 ?y1_6 ?y1_7 ?y1_8 ?y1_9 ?y1_10, ?g_NoLoop_place, KA.ClsT.mk' ?y2_0 ?y2_1 ?y2_2 ?y2_3 ?y2_4 ?y2_5 ?y2_6 ?y2_7 ?y2_8 ?y2_9 ?y2_10, ?g_NoMeasure_place, KA.ClsT.mk' ?y3_0 ?y3_1 ?y3_2 ?y3_3 ?y3_4 ?y3_5 ?y3_6 ?y3_7 ?y3_8 ?y3_9 ?y3_10, ?g_NoText_line, KA.ClsT.mk' ?y4_0 ?y4_1 ?y4_2 ?y4_3 ?y4_4 ?y4_5 ?y4_6 ?y4_7 ?y4_8 ?y4_9 ?y4_10, ?g_TooGreat_number, ?g_TooGreat_most, ?p1, ?p2, KA.per_mk ?p3 ?p4 ?p5 ?p6, ⟨?n1_e, ?n1_1, ?n1_2, ?n1_3, ?n1_4, ?n1_5, ?n1_6, ?n1_7⟩, ⟨?n0_e, ?n0_1, ?n0_2, ?n0_3, ?n0_4, ?n0_5, ?n0_6, ?n0_7⟩, ?s1, ?s0, ?d2, ?t_2, ?u_2, ?d3, ?t_3, ?u_3, ?d4, ?t_4, ?u_4, ?d5, ?t_5, ?u_5⟩
      (case a0 => k_is); (case l0 => k_is); (case c0 => k_is); (case k0 => k_is)
      (case a1 => k_is); (case l1 => k_is); (case c1 => k_is); (case k1 => k_is)
      (case a2 => k_is); (case l2 => k_is); (case c2 => k_is); (case k2 => k_is)
      (case a3 => k_is); (case l3 => k_is); (case c3 => k_is); (case k3 => k_is)
      (case a4 => k_is); (case l4 => k_is); (case c4 => k_is); (case k4 => k_is)
      (case a5 => k_is); (case l5 => k_is); (case c5 => k_is); (case k5 => k_is)
      (case a6 => k_is); (case l6 => k_is); (case c6 => k_is); (case k6 => k_is)
      (case a7 => k_is); (case l7 => k_is); (case c7 => k_is); (case k7 => k_is)
      (case a8 => k_is); (case l8 => k_is); (case c8 => k_is); (case k8 => k_is)
      (case a9 => k_is); (case l9 => k_is); (case c9 => k_is); (case k9 => k_is)
      (case a10 => k_is); (case l10 => k_is); (case c10 => k_is); (case k10 => k_is)
      (case a11 => k_is); (case l11 => k_is); (case c11 => k_is); (case k11 => k_is)
      (case a12 => k_is); (case l12 => k_is); (case c12 => k_is); (case k12 => k_is)
      (case a13 => k_is); (case l13 => k_is); (case c13 => k_is); (case k13 => k_is)
      (case a14 => k_is); (case l14 => k_is); (case c14 => k_is); (case k14 => k_is)
      (case a15 => k_is); (case l15 => k_is); (case c15 => k_is); (case k15 => k_is)
      (case a16 => k_is); (case l16 => k_is); (case c16 => k_is); (case k16 => k_is)
      (case a17 => k_is); (case l17 => k_is); (case c17 => k_is); (case k17 => k_is)
      (case a18 => k_is); (case l18 => k_is); (case c18 => k_is); (case k18 => k_is)
      (case u0 => (with_unfolding_all exact rfl)); (case r0 => exact ⟨_, rfl⟩)
      (case z0 => k_is)
      (case z1 => k_is)
      (case z2 => k_is)
      (case z3 => k_is)
      (case z4 => k_is)
      (case z5 => k_is)
      (case z6 => k_is)
      (case z7 => k_is)
      (case z8 => k_is)
      (case z9 => k_is)
      (case z10 => k_is)
      (case y0_0 => k_is); (case y0_1 => k_is); (case y0_2 => k_is); (case y0_3 => k_is); (case y0_4 => k_is); (case y0_5 => k_is); (case y0_6 => k_is); (case y0_7 => rfl); (case y0_8 => k_is); (case y0_9 => k_is); (case y0_10 => k_is)
      (case g_NoName_name => k_is)
      (case y1_0 => k_is); (case y1_1 => k_is); (case y1_2 => k_is); (case y1_3 => k_is); (case y1_4 => k_is); (case y1_5 => k_is); (case y1_6 => k_is); (case y1_7 => rfl); (case y1_8 => k_is); (case y1_9 => k_is); (case y1_10 => k_is)
      (case g_NoLoop_place => k_is)
      (case y2_0 => k_is); (case y2_1 => k_is); (case y2_2 => k_is); (case y2_3 => k_is); (case y2_4 => k_is); (case y2_5 => k_is); (case y2_6 => k_is); (case y2_7 => rfl); (case y2_8 => k_is); (case y2_9 => k_is); (case y2_10 => k_is)
      (case g_NoMeasure_place => k_is)
      (case y3_0 => k_is); (case y3_1 => k_is); (case y3_2 => k_is); (case y3_3 => k_is); (case y3_4 => k_is); (case y3_5 => k_is); (case y3_6 => k_is); (case y3_7 => rfl); (case y3_8 => k_is); (case y3_9 => k_is); (case y3_10 => k_is)
      (case g_NoText_line => k_is)
      (case y4_0 => k_is); (case y4_1 => k_is); (case y4_2 => k_is); (case y4_3 => k_is); (case y4_4 => k_is); (case y4_5 => k_is); (case y4_6 => k_is); (case y4_7 => rfl); (case y4_8 => k_is); (case y4_9 => k_is); (case y4_10 => k_is)
      (case g_TooGreat_number => k_is)
      (case g_TooGreat_most => k_is)
      (case p1 => k_is); (case p2 => k_is); (case p3 => k_is); (case p4 => k_is)
      (case p5 => exact KA.strKeys_of (by first | rfl | kernel_rfl))
      (case p6 => first | rfl | kernel_rfl)
      (case n1_1 => k_is); (case n1_2 => k_is); (case n1_3 => k_is); (case n1_4 => k_is); (case n1_5 => k_is); (case n1_6 => k_is)
      (case n0_1 => k_is); (case n0_2 => k_is); (case n0_3 => k_is); (case n0_4 => k_is); (case n0_5 => k_is); (case n0_6 => k_is)
      (case s1 => k_is); (case s0 => k_is)
      (case d2 => decide); (case t_2 => k_is); (case u_2 => k_is)
      (case d3 => decide); (case t_3 => k_is); (case u_3 => k_is)
      (case d4 => decide); (case t_4 => k_is); (case u_4 => k_is)
      (case d5 => decide); (case t_5 => k_is); (case u_5 => k_is)
      (case n1_e => exact KA.errG_of (by k_is) rfl); (case n0_e => exact KA.errG_of (by k_is) rfl)
      (case n1_7 => exact KA.cls_some (KA.errG_of (by k_is) rfl)); (case n0_7 => exact KA.cls_some (KA.errG_of (by k_is) rfl))
    exact K05.all_mk T KX G hmg
