import PyProof.Rows.All
import Wide.All
import OpenK.AllK
import Wide.FinOn
import Lean
import PyProof.EqAt
import PyProof.EqKinds
import PyProof.TupleCall
import PySem.Challenge.RW_poisescale_k04_written_and_read
set_option Elab.async false
set_option linter.all false
set_option maxRecDepth 100000
/-! THE HAND LAYER, for ints, bools, texts, own classes, LISTS and tuples (index, slices, in, append, pop ..), calls, loops. Paste it whole ahead of your own text; what your proof does not reach may be deleted. -/
namespace L2
open PySem PySem.Spec PyProof.Rows

/-- a key: an int or a str -/
abbrev Key := Sum Int Str
def keyIs : Key → Value → Bool
  | .inl k, v => Value.isInt k v
  | .inr x, v => Value.isStrOf x v
def keyH (w : World) : Key → Int
  | .inl k => hashInt k
  | .inr x => hashStr w x
theorem keyIs_shape : ∀ {k : Key} {v : Value}, keyIs k v = true → (∃ i t, k = Sum.inl i ∧ v = Value.int i t) ∨ (∃ x t, k = Sum.inr x ∧ v = Value.str x t)
  | .inl i, v, h => by
    obtain ⟨t, e⟩ := Value.isInt_shape (k := i) (v := v) h
    exact .inl ⟨i, t, rfl, e⟩
  | .inr x, v, h => by
    obtain ⟨t, e⟩ := Value.isStrOf_shape (x := x) (v := v) h
    exact .inr ⟨x, t, rfl, e⟩
theorem keyIs_int (i : Int) (t : Tok) : keyIs (.inl i) (.int i t) = true := by simp [keyIs, Value.isInt]
theorem keyIs_str (x : Str) (t : Tok) : keyIs (.inr x) (.str x t) = true := by simp [keyIs, Value.isStrOf]
theorem key_ll (a b : Int) : decide ((Sum.inl a : Key) = Sum.inl b) = (a == b) := by
  by_cases e : a = b
  · subst e; simp
  · have h : ¬ (Sum.inl a : Key) = Sum.inl b := fun q => e (Sum.inl.inj q)
    rw [decide_eq_false h]
    exact (beq_eq_false_iff_ne.mpr e).symm
theorem key_rr (a b : Str) : decide ((Sum.inr a : Key) = Sum.inr b) = decide (a = b) := by
  by_cases e : a = b
  · subst e; simp
  · have h : ¬ (Sum.inr a : Key) = Sum.inr b := fun q => e (Sum.inr.inj q)
    rw [decide_eq_false h, decide_eq_false e]
theorem key_lr (a : Int) (b : Str) : decide ((Sum.inl a : Key) = Sum.inr b) = false := decide_eq_false (fun q => nomatch q)
theorem key_rl (a : Str) (b : Int) : decide ((Sum.inr a : Key) = Sum.inl b) = false := decide_eq_false (fun q => nomatch q)

def mixKind (prog : Program) (w : World) : PySem.KeyKind prog w Key where
  is := keyIs
  hash := keyH w
  inj := fun v a b ha hb => by
    rcases keyIs_shape ha with ⟨i, t, rfl, rfl⟩ | ⟨x, t, rfl, rfl⟩
    · rcases keyIs_shape hb with ⟨j, u, rfl, e⟩ | ⟨y, u, rfl, e⟩
      · injection e with e1 _; rw [e1]
      · exact nomatch e
    · rcases keyIs_shape hb with ⟨j, u, rfl, e⟩ | ⟨y, u, rfl, e⟩
      · exact nomatch e
      · injection e with e1 _; rw [e1]
  byValue := fun k v h => by
    rcases keyIs_shape h with ⟨i, t, rfl, rfl⟩ | ⟨x, t, rfl, rfl⟩ <;> rfl
  pyHash := fun hv h => by
    rcases keyIs_shape hv with ⟨i, t, rfl, rfl⟩ | ⟨x, t, rfl, rfl⟩
    · exact wpAny_pyHash_int h
    · exact wpAny_pyHash_str h
  eqBool := fun hu hv h => by
    rcases keyIs_shape hu with ⟨i, t, rfl, rfl⟩ | ⟨x, t, rfl, rfl⟩
    · rcases keyIs_shape hv with ⟨j, u, rfl, rfl⟩ | ⟨y, u, rfl, rfl⟩
      · rw [key_ll] at h; exact wpAny_eqBool_int h
      · rw [key_lr] at h; exact SeqAt.EqAt.int_str i t y u _ _ _ _ h
    · rcases keyIs_shape hv with ⟨j, u, rfl, rfl⟩ | ⟨y, u, rfl, rfl⟩
      · rw [key_rl] at h; exact SeqAt.EqAt.str_int x t j u _ _ _ _ h
      · rw [key_rr] at h; exact wpAny_eqBool_str h
  «strs» := fun k x t v h => by
    rcases keyIs_shape h with ⟨i, u, rfl, e⟩ | ⟨y, u, rfl, e⟩
    · exact nomatch e
    · injection e with e1 _
      subst e1
      cases v <;> rfl

theorem mixKind_is (prog : Program) (w : World) (k : Key) (v : Value) : (mixKind prog w).is k v = keyIs k v := rfl
theorem mixKind_int (prog : Program) (w : World) (i : Int) (t : Tok) : (mixKind prog w).is (.inl i) (.int i t) = true := keyIs_int i t
theorem mixKind_str (prog : Program) (w : World) (x : Str) (t : Tok) : (mixKind prog w).is (.inr x) (.str x t) = true := keyIs_str x t
end L2

namespace L2
open PySem PySem.Spec PyProof.Rows

/-- a value, without the heap -/
inductive V where
  | non | bl (b : Bool) | int (i : Int) | str (x : Str) | byt (b : Array UInt8) | flt (b : UInt64) | ref (a : Addr) | ty (n : String)
  deriving DecidableEq

def RelV : V → Value → Prop
  | .non, u => u = Value.none
  | .bl b, u => u = Value.bool b
  | .int i, u => ∃ t, u = Value.int i t
  | .str x, u => ∃ t, u = Value.str x t
  | .byt b, u => ∃ t, u = Value.bytes b t
  | .flt b, u => ∃ t, u = Value.float b t
  | .ref a, u => u = Value.ref a
  | .ty n, u => u = Value.type n

abbrev Vals : List V → List Value → Prop := Paired RelV
theorem Vals.length {xs : List V} {us : List Value} (r : Vals xs us) : xs.length = us.length := Paired.length r
theorem Vals.get : ∀ {xs : List V} {us : List Value} {i : Nat} {x : V}, Vals xs us → xs[i]? = some x → ∃ u, us[i]? = some u ∧ RelV x u
  | _, _, _, _, .nil, e => by simp at e
  | _, _, 0, _, .cons r _, e => by simp at e; subst e; exact ⟨_, rfl, r⟩
  | _, _, i + 1, x, .cons _ t, e => by
    obtain ⟨u, h1, h2⟩ := Vals.get (i := i) (x := x) t (by simpa using e)
    exact ⟨u, by simpa using h1, h2⟩
theorem Vals.set {x : V} {u : Value} (r : RelV x u) : ∀ {xs : List V} {us : List Value} (i : Nat), Vals xs us → Vals (xs.set i x) (us.set i u)
  | _, _, _, .nil => .nil
  | _, _, 0, .cons _ t => .cons r t
  | _, _, i + 1, .cons q t => .cons q (Vals.set r i t)
theorem Vals.append : ∀ {xs ys : List V} {us ws : List Value}, Vals xs us → Vals ys ws → Vals (xs ++ ys) (us ++ ws)
  | _, _, _, _, .nil, s => s
  | _, _, _, _, .cons r t, s => .cons r (Vals.append t s)
theorem Vals.take : ∀ {xs : List V} {us : List Value} (n : Nat), Vals xs us → Vals (xs.take n) (us.take n)
  | _, _, 0, _ => .nil
  | _, _, _ + 1, .nil => .nil
  | _, _, n + 1, .cons r t => .cons r (Vals.take n t)
theorem Vals.drop : ∀ {xs : List V} {us : List Value} (n : Nat), Vals xs us → Vals (xs.drop n) (us.drop n)
  | _, _, 0, r => r
  | _, _, _ + 1, .nil => .nil
  | _, _, n + 1, .cons _ t => Vals.drop n t
theorem Vals.none_of : ∀ {xs : List V} {us : List Value} {i : Nat}, Vals xs us → xs[i]? = none → us[i]? = none := fun {xs us i} r e => by
  have h1 := r.length
  have h2 : xs.length ≤ i := List.getElem?_eq_none_iff.mp e
  exact List.getElem?_eq_none_iff.mpr (by omega)

def RelO : Option V → Option Value → Prop
  | some v, some u => RelV v u
  | none, none => True
  | _, _ => False
def KV {κ : Type} : List (κ × V) → List (κ × Value) → Prop := Paired fun (p : κ × V) (q : κ × Value) => p.1 = q.1 ∧ RelV p.2 q.2

/-- a key of a dict (00_mix): an int or a text -/
def kV : Key → V
  | .inl i => .int i
  | .inr x => .str x

/-- what stands at a tracked address -/
inductive HO where
  /-- a list -/
  | lst (xs : List V)
  /-- a tuple (never changes) -/
  | tup (xs : List V)
  /-- a dict whose keys are ints and texts; one whose keys are tuples of ints and texts (the empty one is both) -/
  | dK (kvs : List (Key × V)) | dT (kvs : List (List Key × V))
  /-- a set of ints: its members, its size -/
  | set (S : Int → Bool) (n : Nat)
  /-- an instance of the class at C, its dict at dx, its attributes -/
  | ins (C dx : Addr) (fs : List (Str × V))
  /-- the dict of the instance at x -/
  | own (x : Addr)
  /-- the dict of an exception -/
  | xd (fs : List (Str × V))
  /-- a bound method, f of x -/
  | met (f x : Addr)
  /-- a range object lo, lo + 1, .. below hi -/
  | rng (lo hi : Int)
  /-- a thing that is known to the object (the script; a dict while a loop walks it): read, never written while it is so -/
  | frz (o : Obj) (u : HO)
  /-- a code object's table -/
  | tbl (ps : Array Value)
  /-- any other thing, by what is true of its one object (a def of one's own: SetO a S n := HO.ext fun h => ..) -/
  | ext (φ : Heap → Prop)

abbrev Hp := Addr → Option HO
def upd (H : Hp) (a : Addr) (o : HO) : Hp := fun b => if b = a then some o else H b
theorem upd_same {H : Hp} {a : Addr} {o : HO} : upd H a o a = some o := by unfold upd; rw [if_pos rfl]
theorem upd_ne {H : Hp} {a b : Addr} {o : HO} (h : b ≠ a) : upd H a o b = H b := by unfold upd; rw [if_neg h]
theorem upd_upd {H : Hp} {a : Addr} {o u : HO} : upd (upd H a o) a u = upd H a u := by
  funext b; unfold upd; split <;> rfl
/-- two objects of different content stand apart -/
theorem ne_of {H : Hp} {a b : Addr} {o u : HO} (h : H a = some o) (h' : H b = some u) (d : o ≠ u) : a ≠ b := by
  intro e; subst e; rw [h] at h'; exact d (Option.some.inj h')
theorem ne_of_none {H : Hp} {a b : Addr} {o : HO} (h : H a = some o) (h' : H b = none) : a ≠ b := by
  intro e; subst e; rw [h] at h'; cases h'

section
variable (P : Program) (w : World)
def ObjOk (H : Hp) (h : Heap) (a : Addr) : HO → Prop
  | .lst xs => xs.length ≤ sizeLine ∧ ∃ (its : List Value) (n : Nat), Vals xs its ∧ h.get? a = some { cls := .type "list", data := .seq its.toArray n }
  | .tup xs => xs.length ≤ sizeLine ∧ ∃ its : List Value, Vals xs its ∧ IsTup h a its.toArray
  | .dK kvs => kvs.length ≤ sizeLine ∧ (a == sysModules) = false ∧ ∃ vs, KV kvs vs ∧ h.DictOf (mixKind P w) a vs
  | .dT kvs => kvs.length ≤ sizeLine ∧ (a == sysModules) = false ∧ ∃ xs : List (List Key × Addr × Value),
      Paired (fun (p : List Key × V) (q : List Key × Addr × Value) => p.1 = q.1 ∧ H q.2.1 = some (.tup (p.1.map kV)) ∧ RelV p.2 q.2.2) kvs xs ∧
      ∃ o es ep, h.get? a = some o ∧ o.ExactDict ∧ o.data = .dict es ep ∧ es.toList = xs.map (entryOfKey (tupleKind (mixKind P w))) ∧ (xs.map (·.1)).Nodup
  | .set S n => h.SetOf (intKind P w) a S n
  | .ins C dx fs => H dx = some (.own a) ∧ fs.length ≤ 1000 ∧ dx ≠ a ∧ h.get? a = some (PySem.W.instObj C dx) ∧
      ∃ mA, h.Ns1 dx mA ∧ (∀ f, RelO (fs.lookup f) (mA f)) ∧ PySem.Within mA (fs.map (·.1))
  | .own _ => ∃ o, h.get? a = some o
  | .xd fs => ∃ mA, h.Ns1 a mA ∧ ∀ f, RelO (fs.lookup f) (mA f)
  | .rng lo hi => ∃ t u v, h.get? a = some { cls := .type "range", data := .fields #[.int lo t, .int hi u, .int 1 v] }
  | .frz o u => h.get? a = some o ∧ ObjOk H h a u
  | .tbl ps => h.get? a = some { cls := .none, data := .fields ps }
  | .met f x => h.get? a = some (PySem.W.methodObj (.ref f) (.ref x))
  | .ext φ => φ h ∧ (∃ o, h.get? a = some o) ∧ ∀ h1 h2 : Heap, φ h1 → (∀ o, h1.get? a = some o → h2.get? a = some o) → φ h2
/-- the abstract heap is held -/
def HOk (H : Hp) (h : Heap) : Prop := ∀ a o, H a = some o → ObjOk P w H h a o
end

section
variable {P : Program} {w : World} {H H' : Hp} {h h' : Heap} {a : Addr} {o : HO}
theorem ObjOk.lt (x : ObjOk P w H h a o) : a < h.objs.size := by
  cases o with
  | lst xs => obtain ⟨_, _, _, _, e⟩ := x; exact Heap.lt_size e
  | tup xs => obtain ⟨_, _, _, p⟩ := x; exact p.lt
  | dK kvs => obtain ⟨_, _, _, _, o, _, _, e, _⟩ := x; exact Heap.lt_size e
  | dT kvs => obtain ⟨_, _, _, _, o, _, _, e, _⟩ := x; exact Heap.lt_size e
  | set S n => obtain ⟨o, _, _, _, e, _⟩ := x; exact Heap.lt_size e
  | ins C dx fs => obtain ⟨_, _, _, e, _⟩ := x; exact Heap.lt_size e
  | own y => obtain ⟨_, e⟩ := x; exact Heap.lt_size e
  | xd fs => obtain ⟨_, ⟨_, _, _, e, _⟩, _⟩ := x; exact Heap.lt_size e
  | rng lo hi => obtain ⟨_, _, _, e⟩ := x; exact Heap.lt_size e
  | frz ob u => obtain ⟨e, _⟩ := x; exact Heap.lt_size e
  | tbl ps => exact Heap.lt_size (show h.get? a = some _ from x)
  | met f y => exact Heap.lt_size (show h.get? a = some _ from x)
  | ext φ => obtain ⟨_, ⟨_, e⟩, _⟩ := x; exact Heap.lt_size e
theorem Paired.mapP {α β : Type} {F G : α → β → Prop} : ∀ {l₁ : List α} {l₂ : List β}, Paired F l₁ l₂ → (∀ a b, F a b → G a b) → Paired G l₁ l₂
  | _, _, .nil, _ => .nil
  | _, _, .cons r t, f => .cons (f _ _ r) (Paired.mapP t f)
theorem Paired.imp' {α β : Type} {F G : α → β → Prop} (f : ∀ a b, F a b → G a b) {l₁ : List α} {l₂ : List β} (r : Paired F l₁ l₂) : Paired G l₁ l₂ := Paired.mapP r f
/-- what an object's description leans on: its own object, its own dict, the tuples -/
theorem ObjOk.stay (x : ObjOk P w H h a o) (k : ∀ b u, (b = a ∨ H b = some (.own a)) → h.get? b = some u → h'.get? b = some u)
    (ho : ∀ b, H b = some (.own a) → H' b = some (.own a)) (ht : ∀ b xs, H b = some (.tup xs) → H' b = some (.tup xs)) : ObjOk P w H' h' a o := by
  induction o with
  | lst xs => obtain ⟨z, its, n, r, e⟩ := x; exact ⟨z, its, n, r, k _ _ (.inl rfl) e⟩
  | tup xs => obtain ⟨z, its, r, ob, e, c⟩ := x; exact ⟨z, its, r, ob, k _ _ (.inl rfl) e, c⟩
  | dK kvs => obtain ⟨z, y, vs, r, ob, es, ep, e, c⟩ := x; exact ⟨z, y, vs, r, ob, es, ep, k _ _ (.inl rfl) e, c⟩
  | dT kvs =>
    obtain ⟨z, y, xs, r, ob, es, ep, e, c⟩ := x
    exact ⟨z, y, xs, Paired.mapP r fun p q z => ⟨z.1, ht _ _ z.2.1, z.2.2⟩, ob, es, ep, k _ _ (.inl rfl) e, c⟩
  | set S n => obtain ⟨ob, es, ep, t, e, c⟩ := x; exact ⟨ob, es, ep, t, k _ _ (.inl rfl) e, c⟩
  | ins C dx fs =>
    obtain ⟨d, z, ne, e, mA, ⟨od, es, ep, e2, c⟩, r⟩ := x
    exact ⟨ho _ d, z, ne, k _ _ (.inl rfl) e, mA, ⟨od, es, ep, k _ _ (.inr d) e2, c⟩, r⟩
  | own y => obtain ⟨ob, e⟩ := x; exact ⟨ob, k _ _ (.inl rfl) e⟩
  | xd fs => obtain ⟨mA, ⟨od, es, ep, e, c⟩, r⟩ := x; exact ⟨mA, ⟨od, es, ep, k _ _ (.inl rfl) e, c⟩, r⟩
  | rng lo hi => obtain ⟨t, u, v, e⟩ := x; exact ⟨t, u, v, k _ _ (.inl rfl) e⟩
  | frz ob u ih => obtain ⟨e, q⟩ := x; exact ⟨k _ _ (.inl rfl) e, ih q⟩
  | tbl ps =>
    have e : h.get? a = some { cls := .none, data := .fields ps } := x
    show h'.get? a = some { cls := .none, data := .fields ps }
    exact k a _ (.inl rfl) e
  | met f y =>
    have e : h.get? a = some (PySem.W.methodObj (.ref f) (.ref y)) := x
    show h'.get? a = some (PySem.W.methodObj (.ref f) (.ref y))
    exact k a _ (.inl rfl) e
  | ext φ => obtain ⟨p, ⟨o, e⟩, st⟩ := x; exact ⟨st _ _ p fun o q => k _ _ (.inl rfl) q, ⟨o, k _ _ (.inl rfl) e⟩, st⟩
theorem HOk.lt (x : HOk P w H h) (e : H a = some o) : a < h.objs.size := (x a o e).lt
theorem HOk.fresh (x : HOk P w H h) (e : h.objs.size ≤ a) : H a = none := by
  cases q : H a with
  | none => rfl
  | some u => exact absurd (Nat.lt_of_lt_of_le (x.lt q) e) (Nat.lt_irrefl _)
/-- every object of the heap is kept -/
theorem HOk.kept (x : HOk P w H h) (k : ∀ b u, h.get? b = some u → h'.get? b = some u) : HOk P w H h' := fun a o e =>
  (x a o e).stay (fun b u _ q => k b u q) (fun _ q => q) fun _ _ q => q
/-- a new object is laid and tracked -/
theorem HOk.laid (x : HOk P w H h) (k : ∀ b u, h.get? b = some u → h'.get? b = some u) (hp : h.objs.size ≤ a) (new : ObjOk P w (upd H a o) h' a o) : HOk P w (upd H a o) h' := fun b u e => by
  have hn := x.fresh hp
  by_cases hb : b = a
  · subst hb; rw [upd_same] at e; cases e; exact new
  · rw [upd_ne hb] at e
    exact (x b u e).stay (fun c v _ q => k c v q) (fun c q => by rw [upd_ne (ne_of_none q hn)]; exact q) fun c xs q => by rw [upd_ne (ne_of_none q hn)]; exact q
end

/-- what may be read as u: it is u, or a known u -/
def Rd (H : Hp) (a : Addr) (u : HO) : Prop := H a = some u ∨ ∃ o, H a = some (.frz o u)
theorem Rd.of {H : Hp} {a : Addr} {u : HO} (h : H a = some u) : Rd H a u := .inl h
theorem Rd.ok {P : Program} {w : World} {H : Hp} {h : Heap} {a : Addr} {u : HO} (r : Rd H a u) (x : HOk P w H h) : ObjOk P w H h a u := by
  rcases r with r | ⟨o, r⟩
  · exact x a u r
  · obtain ⟨_, q⟩ := x a _ r
    exact q
/-- what may be written -/
def Mut : Option HO → Prop
  | some (.lst _) => True
  | some (.dK _) => True
  | some (.dT _) => True
  | some (.set _ _) => True
  | some (.ins _ _ _) => True
  | some (.ext _) => True
  | _ => False
section
variable {P : Program} {w : World} {H : Hp} {h h' : Heap} {x e : Addr} {o' : HO}
/-- the object at e is changed: x itself, or the dict of the instance x -/
theorem HOk.write (ok : HOk P w H h) (mu : Mut (H x)) (he : e = x ∨ H e = some (.own x)) (k : ∀ b u, b ≠ e → h.get? b = some u → h'.get? b = some u) (heo : ∃ u, h'.get? e = some u)
    (new : ObjOk P w (upd H x o') h' x o') : HOk P w (upd H x o') h' := fun b u q => by
  have nown : ∀ c y, H c = some (.own y) → c ≠ x := fun c y r z => by subst z; rw [r] at mu; exact mu
  have ntup : ∀ c xs, H c = some (.tup xs) → c ≠ x := fun c xs r z => by subst z; rw [r] at mu; exact mu
  by_cases hb : b = x
  · subst hb; rw [upd_same] at q; cases q; exact new
  · rw [upd_ne hb] at q
    by_cases hbe : b = e
    · have q' : H b = some (.own x) := by
        rcases he with z | z
        · exact absurd (hbe.trans z) hb
        · rw [hbe]; exact z
      rw [q] at q'; cases q'
      obtain ⟨v, hv⟩ := heo
      exact ⟨v, by rw [hbe]; exact hv⟩
    · refine (ok b u q).stay (fun c v hc r => k c v ?_ r) (fun c r => by rw [upd_ne (nown c b r)]; exact r) fun c xs r => by rw [upd_ne (ntup c xs r)]; exact r
      rcases hc with rfl | hc
      · exact hbe
      · rintro rfl
        rcases he with z | z
        · exact nown c b hc z
        · rw [hc] at z; cases z; exact hb rfl
end

/-! ### kept unless tracked; of the frames at fs (the callers') the slots may change (an exception that passes writes there); of the records at ex (iterators) nothing is said -/
structure Un (fs ex : List Addr) (H H' : Hp) (h h' : Heap) : Prop where
  keep : ∀ b o, h.get? b = some o → H b = none → b ∉ fs → b ∉ ex → h'.get? b = some o
  slot : ∀ b o, h.get? b = some o → H b = none → b ∈ fs → b ∉ ex → ∃ sl, h'.get? b = some { o with slots := sl }
  free : ∀ b o, h.get? b = some o → H b = none → b ∉ ex → H' b = none
  there : ∀ b o, h.get? b = some o → b ∉ ex → ∃ o', h'.get? b = some o'
  tups : ∀ b xs, H b = some (.tup xs) → H' b = some (.tup xs)
  frzs : ∀ b o u, H b = some (.frz o u) → H' b = some (.frz o u)
  tbls : ∀ b ps, H b = some (.tbl ps) → ∃ more, H' b = some (.tbl (ps ++ more))
section
variable {fs fs' ex ex' : List Addr} {H H1 H2 : Hp} {h h1 h2 h' : Heap} {a x e : Addr} {o : HO}
theorem Un.any (u : Un fs ex H H1 h h1) {b : Addr} {ob : Obj} (q : h.get? b = some ob) (n : H b = none) (hx : b ∉ ex) : ∃ sl, h1.get? b = some { ob with slots := sl } := by
  by_cases hb : b ∈ fs
  · exact u.slot b ob q n hb hx
  · exact ⟨ob.slots, u.keep b ob q n hb hx⟩
theorem Un.trans (a : Un fs ex H H1 h h1) (b : Un fs ex H1 H2 h1 h2) : Un fs ex H H2 h h2 where
  keep := fun c ob q n hc hx => b.keep c ob (a.keep c ob q n hc hx) (a.free c ob q n hx) hc hx
  slot := fun c ob q n hc hx => by
    obtain ⟨sl, e1⟩ := a.slot c ob q n hc hx
    obtain ⟨sl', e2⟩ := b.slot c _ e1 (a.free c ob q n hx) hc hx
    exact ⟨sl', e2⟩
  free := fun c ob q n hx => by
    obtain ⟨o', e1⟩ := a.there c ob q hx
    exact b.free c o' e1 (a.free c ob q n hx) hx
  there := fun c ob q hx => by
    obtain ⟨o', e1⟩ := a.there c ob q hx
    exact b.there c o' e1 hx
  tups := fun c xs q => b.tups c xs (a.tups c xs q)
  frzs := fun c ob xs q => b.frzs c ob xs (a.frzs c ob xs q)
  tbls := fun c ps q => by
    obtain ⟨m1, e1⟩ := a.tbls c ps q
    obtain ⟨m2, e2⟩ := b.tbls c _ e1
    exact ⟨m1 ++ m2, by rw [e2, Array.append_assoc]⟩
theorem Un.kept (k : ∀ b u, h.get? b = some u → h'.get? b = some u) : Un fs ex H H h h' :=
  ⟨fun b ob q _ _ _ => k b ob q, fun b ob q _ _ _ => ⟨ob.slots, k b ob q⟩, fun _ _ _ n _ => n, fun b ob q _ => ⟨ob, k b ob q⟩, fun _ _ q => q, fun _ _ _ q => q, fun _ ps q => ⟨#[], by rw [q]; simp⟩⟩
theorem Un.refl : Un fs ex H H h h := Un.kept fun _ _ q => q
theorem Un.laid (k : ∀ b u, h.get? b = some u → h'.get? b = some u) (hp : h.objs.size ≤ a) (hn : H a = none) : Un fs ex H (upd H a o) h h' where
  keep := fun b u q _ _ _ => k b u q
  slot := fun b u q _ _ _ => ⟨u.slots, k b u q⟩
  free := fun b u q n _ => by rw [upd_ne (Nat.ne_of_lt (Nat.lt_of_lt_of_le (Heap.lt_size q) hp))]; exact n
  there := fun b u q _ => ⟨u, k b u q⟩
  tups := fun b xs q => by rw [upd_ne (ne_of_none q hn)]; exact q
  frzs := fun b u xs q => by rw [upd_ne (ne_of_none q hn)]; exact q
  tbls := fun b ps q => ⟨#[], by rw [upd_ne (ne_of_none q hn), q]; simp⟩
theorem Un.write (mu : Mut (H x)) (he : e = x ∨ H e = some (.own x)) (k : ∀ b u, b ≠ e → h.get? b = some u → h'.get? b = some u) (heo : ∃ u, h'.get? e = some u) : Un fs ex H (upd H x o) h h' := by
  have hx : ∀ b, H b = none → b ≠ x := fun b n z => by subst z; rw [n] at mu; exact mu
  have hb : ∀ b, H b = none → b ≠ e := fun b n z => by
    subst z
    rcases he with r | r
    · exact hx b n r
    · rw [n] at r; cases r
  have hm : ∀ b u, H b = some u → ¬ Mut (some u) → b ≠ x := fun b u q nm z => by subst z; rw [q] at mu; exact nm mu
  refine ⟨fun b u q n _ _ => k b u (hb b n) q, fun b u q n _ _ => ⟨u.slots, k b u (hb b n) q⟩, fun b u q n _ => by rw [upd_ne (hx b n)]; exact n, fun b u q _ => ?_,
    fun b xs q => by rw [upd_ne (hm b _ q fun z => z)]; exact q, fun b u xs q => by rw [upd_ne (hm b _ q fun z => z)]; exact q, fun b ps q => ⟨#[], by rw [upd_ne (hm b _ q fun z => z), q]; simp⟩⟩
  by_cases hbe : b = e
  · subst hbe; exact heo
  · exact ⟨u, k b u hbe q⟩
theorem Un.mono (u : Un fs ex H H1 h h1) (hs : ∀ b ∈ fs, b ∈ fs') (hx : ∀ b ∈ ex, b ∈ ex') : Un fs' ex' H H1 h h1 :=
  ⟨fun b ob q n hb he => u.keep b ob q n (fun z => hb (hs b z)) fun z => he (hx b z), fun _ _ q n _ he => u.any q n fun z => he (hx _ z), fun b ob q n he => u.free b ob q n fun z => he (hx b z), fun b ob q he => u.there b ob q fun z => he (hx b z), u.tups, u.frzs, u.tbls⟩
end

/-! ### the heap without what is tracked -/
def trk (h : Heap) (H : Hp) : List Addr := (List.range h.objs.size).filter fun a => (H a).isSome
def hidT (h : Heap) (H : Hp) : Heap := PySem.W.hideAll h (trk h H)
theorem hidT_size (h : Heap) (H : Hp) : (hidT h H).objs.size = h.objs.size := PySem.W.hideAll_size _ _
theorem hidT_get {h : Heap} {H : Hp} {b : Addr} {o : Obj} (e : h.get? b = some o) (n : H b = none) : (hidT h H).get? b = some o :=
  PySem.W.hideAll_get _ e fun hm => by
    have q : (H b).isSome = true := (List.mem_filter.mp hm).2
    rw [n] at q; simp at q
theorem of_hidT {h : Heap} {H : Hp} {b : Addr} {o : Obj} (e : (hidT h H).get? b = some o) : h.get? b = some o ∧ H b = none := by
  have e' : h.get? b = some o := PySem.W.of_hideAll (trk h H) e
  refine ⟨e', ?_⟩
  cases q : H b with
  | none => rfl
  | some x =>
    have hm : b ∈ trk h H := List.mem_filter.mpr ⟨List.mem_range.mpr (Heap.lt_size e'), by simp [q]⟩
    have z : (hidT h H).get? b = none := PySem.W.hideAll_none (trk h H) hm
    rw [z] at e; cases e

/-! ### OpenK's ledger, filled with every new object but one -/
def allNews (g h : Heap) (L : Addr) : List (Addr × Obj) := (List.range h.objs.size).filterMap fun a => if a = L ∨ (g.get? a).isSome = true then none else (h.get? a).map fun o => (a, o)
theorem mem_allNews {g h : Heap} {L a : Addr} {o : Obj} (h1 : a ≠ L) (h2 : g.get? a = none) (h3 : h.get? a = some o) : (a, o) ∈ allNews g h L :=
  List.mem_filterMap.mpr ⟨a, List.mem_range.mpr (Heap.lt_size h3), by simp [h1, h2, h3]⟩
theorem of_mem_allNews {g h : Heap} {L : Addr} {p : Addr × Obj} (hp : p ∈ allNews g h L) : p.1 ≠ L ∧ g.get? p.1 = none ∧ h.get? p.1 = some p.2 := by
  obtain ⟨b, _, e⟩ := List.mem_filterMap.mp hp
  split at e
  · cases e
  · rename_i hn
    cases q : h.get? b with
    | none => rw [q] at e; simp at e
    | some u =>
      rw [q] at e
      simp only [Option.map_some, Option.some.injEq] at e
      subst e
      refine ⟨fun z => hn (.inl z), ?_, q⟩
      show g.get? b = none
      cases r : g.get? b with
      | none => rfl
      | some v => exact (hn (.inr (by simp [r]))).elim
def rest (g h : Heap) (L d : Addr) : List (Addr × Obj) := (allNews g h L).filter fun p => decide (p.1 ≠ d)
theorem rest_ne {g h : Heap} {L d : Addr} : ∀ p ∈ rest g h L d, p.1 ≠ d := fun p hp => of_decide_eq_true (List.mem_filter.mp hp).2
theorem mem_rest {g h : Heap} {L d a : Addr} {o : Obj} (h1 : a ≠ L) (h2 : g.get? a = none) (h3 : h.get? a = some o) (h4 : a ≠ d) : (a, o) ∈ rest g h L d :=
  List.mem_filter.mpr ⟨mem_allNews h1 h2 h3, decide_eq_true h4⟩
theorem news_all {g h : Heap} {L : Addr} : News g L h (allNews g h L) := fun p hp => let ⟨a, b, c⟩ := of_mem_allNews hp; ⟨c, a, b⟩
theorem news_at {g h : Heap} {L d : Addr} {o : Obj} (h1 : d ≠ L) (h2 : g.get? d = none) (h3 : h.get? d = some o) : News g L h ((d, o) :: rest g h L d) := fun p hp => by
  rcases List.mem_cons.mp hp with rfl | hp
  · exact ⟨h3, h1, h2⟩
  · exact news_all p (List.mem_filter.mp hp).1
/-- behind a rule that changed d alone: all else but the frame is kept -/
theorem kept_of_news {g h h' : Heap} {L d : Addr} {m : Str → Option Value} (k : ∀ b o, g.get? b = some o → h.get? b = some o) (F : Fr g L h' m) (N : News g L h' (rest g h L d)) :
    ∀ b o, b ≠ L → b ≠ d → h.get? b = some o → h'.get? b = some o := fun b o h1 h2 e => by
  cases q : g.get? b with
  | some u =>
    have := k b u q
    rw [e] at this; cases this
    exact F.keep b _ q
  | none => exact (N (b, o) (mem_rest h1 q e h2)).1
end L2

namespace L2
open PySem PySem.Spec PyProof.Rows

/-- the module's facts, over the base: the heap at the law's entry without what is tracked there -/
structure Mod (K : PySem.W.Frag) (mg : Str → Option Value) (base : Heap) : Prop where
  kin : K.In base
  glob : base.Ns mainGlobals mg
  blt : ∃ mb, base.Ns builtinsNs mb ∧ ∀ x : Str, x ≠ "__name__" → mb x = bootBuiltins x
  nolimit : base.NoLimit

/-- the context: a def's body (or a comprehension's block) running. base: fixed through the whole law; s₀, H₀: the entry; outer: the frames whose slots others may change (a def's callers); stack: all frames that run;
   ex: iterators that were made ahead of the entry and are walked here (a comprehension's); fn: the names whose cells were made at the entry (a def: all; a comprehension's block: its own); calm: not within an except suite; pn: pins that every state bears; xe: what is wanted of an exception that leaves the code -/
structure Cx where
  prog : Program
  w : World
  K : PySem.W.Frag
  mg : Str → Option Value
  base : Heap
  A : Around
  N : List Str
  s₀ : Shared
  H₀ : Hp
  env : Env
  outer : List Env
  stack : List Env
  ex : List Addr
  fn : Str → Bool
  calm : Bool
  pn : List (Addr × Obj)
  xe : Value → Shared → Prop
/-- the callers' frames -/
def frs (l : List Env) : List Addr := l.filterMap (·.frame)
abbrev Cx.fs (X : Cx) : List Addr := frs X.outer

def Vis (sc : Scope) (x : Str) : Prop := sc.names.lookup x = some .local ∨ sc.names.lookup x = some .cell ∨ sc.names.lookup x = some .free
def Loc (sc : Scope) (x : Str) : Prop := sc.names.lookup x = some .local ∨ sc.names.lookup x = some .cell
def Look (env : Env) (h : Heap) (m : Str → Option Value) (x : Str) (u : Value) : Prop :=
  (env.kindOf x = some .local ∧ m x = some u) ∨ ((env.kindOf x = some .cell ∨ env.kindOf x = some .free) ∧ ∃ c, env.cells.lookup x = some c ∧ h.IsCell c (some u))

structure Cx.Ok (X : Cx) : Prop where
  mod : Mod X.K X.mg X.base
  kind : X.env.scope.kind = .function
  glob : X.env.globals = mainGlobals
  blt : X.env.builtins = builtinsNs
  above : X.s₀.heap.objs.size ≤ X.env.locals
  inj : ∀ x y c, X.env.cells.lookup x = some c → X.env.cells.lookup y = some c → x = y
  has : ∀ x, (X.env.kindOf x = some .cell ∨ X.env.kindOf x = some .free) → ∃ c, X.env.cells.lookup x = some c
  cab : ∀ x c, X.fn x = true → X.env.cells.lookup x = some c → X.s₀.heap.objs.size ≤ c
  hd : X.calm = true → X.A.handled = none
  frames : X.A.frames = some X.stack
  stk : X.stack = X.outer ∨ (X.stack = X.env :: X.outer ∧ X.env.frame = some X.env.locals)
  exf : ∀ b ∈ X.ex, b ≠ X.env.locals ∧ ∀ x c, X.env.cells.lookup x = some c → c ≠ b
  bs : ∀ b o, X.base.get? b = some o → X.s₀.heap.get? b = some o ∧ X.H₀ b = none
  bsz : X.base.objs.size ≤ X.s₀.heap.objs.size
  noex : ∀ b o, X.base.get? b = some o → b ∉ X.ex
  exfs : ∀ b ∈ X.ex, b ∉ X.fs
  funs : X.s₀.heap.FunFrames X.base X.outer
  frf : ∀ b ∈ X.fs, X.H₀ b = none

structure Inv (X : Cx) (pins : List (Addr × Obj)) (σ : List (Option V)) (H : Hp) (s : Shared) : Prop where
  ok : X.Ok
  os : s.os = X.s₀.os
  bare : AllBare s.gens
  base : Un X.fs X.ex X.H₀ H X.s₀.heap s.heap
  loc : ∃ m, s.heap.Ns X.env.locals m ∧ ∀ (i : Nat) (x : Str) (v : V), X.N[i]? = some x → σ[i]? = some (some v) → Vis X.env.scope x → ∃ u, RelV v u ∧ Look X.env s.heap m x u
  cell : ∀ x c, X.env.cells.lookup x = some c → ∃ v, s.heap.IsCell c v
  free : H X.env.locals = none
  freeC : ∀ x c, X.env.cells.lookup x = some c → H c = none
  pin : ∀ p ∈ X.pn ++ pins, s.heap.get? p.1 = some p.2 ∧ H p.1 = none ∧ p.1 ≠ X.env.locals ∧ p.1 ∉ X.fs ∧ ∀ v, p.2.data ≠ .cell v
  hok : HOk X.prog X.w H s.heap
  len : σ.length = X.N.length

section
variable {X : Cx} {pins : List (Addr × Obj)} {σ : List (Option V)} {H H' : Hp} {s : Shared} {h' : Heap}

theorem Cx.Ok.nofr (ok : X.Ok) {b : Addr} {o : Obj} (e : X.base.get? b = some o) : b ∉ X.fs := fun hb => by
  have := (ok.funs.mem hb).1
  rw [e] at this; cases this
theorem Inv.bs (I : Inv X pins σ H s) : ∀ b o, X.base.get? b = some o → s.heap.get? b = some o ∧ H b = none := fun b o e =>
  ⟨I.base.keep b o (I.ok.bs b o e).1 (I.ok.bs b o e).2 (I.ok.nofr e) (I.ok.noex b o e), I.base.free b o (I.ok.bs b o e).1 (I.ok.bs b o e).2 (I.ok.noex b o e)⟩
theorem Inv.bk (I : Inv X pins σ H s) : ∀ b o, X.base.get? b = some o → s.heap.get? b = some o := fun b o e => (I.bs b o e).1
theorem Inv.mod (I : Inv X pins σ H s) : Mod X.K X.mg X.base := I.ok.mod
theorem Inv.kIn (I : Inv X pins σ H s) : X.K.In s.heap := I.ok.mod.kin.keeps I.bk
theorem Inv.nolimit (I : Inv X pins σ H s) : s.heap.NoLimit := I.ok.mod.nolimit.keeps I.bk
/-- the frame over the base: for OpenK's rules (K.In X.base is I.mod.kin) -/
theorem Inv.fr (I : Inv X pins σ H s) : ∃ m, Fr X.base X.env.locals s.heap m :=
  let ⟨m, hn, _⟩ := I.loc
  ⟨m, hn, I.bk, Nat.le_trans I.ok.bsz I.ok.above⟩
theorem Inv.lt (I : Inv X pins σ H s) : X.env.locals < s.heap.objs.size := let ⟨_, hn, _⟩ := I.loc; hn.lt
theorem Inv.sz (I : Inv X pins σ H s) : X.s₀.heap.objs.size ≤ s.heap.objs.size := Nat.le_trans I.ok.above (Nat.le_of_lt I.lt)
theorem Inv.nofs (I : Inv X pins σ H s) {a : Addr} (h : s.heap.objs.size ≤ a) : a ∉ X.fs := fun hb => by
  obtain ⟨_, o, ho, _⟩ := I.ok.funs.mem hb
  exact absurd (Nat.lt_of_lt_of_le (Heap.lt_size ho) (Nat.le_trans I.sz h)) (Nat.lt_irrefl _)
theorem Inv.cne (I : Inv X pins σ H s) : ∀ x c, X.env.cells.lookup x = some c → c ≠ X.env.locals := fun x c e z => by
  obtain ⟨v, o, ho, hd⟩ := I.cell x c e
  obtain ⟨m, ⟨o', es, ep, ho', hd', _⟩, _⟩ := I.loc
  rw [z, ho'] at ho; cases ho; rw [hd'] at hd; cases hd
theorem Inv.funs (I : Inv X pins σ H s) : s.heap.FunFrames X.base X.outer := by
  have all : ∀ (l : List Env), (∀ b ∈ frs l, b ∈ X.fs) → X.s₀.heap.FunFrames X.base l → s.heap.FunFrames X.base l := by
    intro l
    induction l with
    | nil => intro _ _; trivial
    | cons env r ih =>
      intro hs hl
      obtain ⟨hk, ⟨L, o, hf, hn, ho, hd⟩, hr⟩ := hl
      have hL : L ∈ X.fs := hs L (by unfold frs; rw [List.filterMap_cons, hf]; exact List.mem_cons_self)
      obtain ⟨sl, e⟩ := I.base.slot L o ho (I.ok.frf L hL) hL fun z => I.ok.exfs L z hL
      exact ⟨hk, ⟨L, _, hf, hn, e, hd⟩, ih (fun b hb => hs b (by unfold frs; rw [List.filterMap_cons, hf]; exact List.mem_cons_of_mem _ hb)) hr⟩
  exact all X.outer (fun _ hb => hb) I.ok.funs

/-- the frames that run, for a call -/
theorem Inv.stack (I : Inv X pins σ H s) : s.heap.FunFrames X.base X.stack := by
  rcases I.ok.stk with e | ⟨e, hf⟩
  · rw [e]; exact I.funs
  · rw [e]
    obtain ⟨m, hn, _⟩ := I.loc
    refine .cons (by rw [I.ok.kind]; decide) hf hn ?_ I.funs
    exact Heap.get?_none_of_le (Nat.le_trans I.ok.bsz I.ok.above)
theorem Inv.stkSub (I : Inv X pins σ H s) : ∀ b ∈ frs X.stack, b ∈ X.env.locals :: X.fs := fun b hb => by
  rcases I.ok.stk with e | ⟨e, hf⟩
  · rw [e] at hb; exact List.mem_cons_of_mem _ hb
  · rw [e] at hb
    unfold frs at hb
    rw [List.filterMap_cons, hf] at hb
    exact hb
theorem Inv.stkFree (I : Inv X pins σ H s) : ∀ b ∈ frs X.stack, H b = none := fun b hb => by
  rcases List.mem_cons.mp (I.stkSub b hb) with e | hb
  · rw [e]; exact I.free
  · obtain ⟨_, o, ho, _⟩ := I.ok.funs.mem hb
    exact I.base.free b o ho (I.ok.frf b hb) fun z => I.ok.exfs b z hb

/-- THE STEP: the untracked objects but the frame and the records at ch are kept (the callers' frames up to slots), the frame's map is kept, the new abstract heap is held -/
theorem Inv.step {g' : Array GenState} {t' : Nat} {d' : Drawn} {ch : List Addr} (I : Inv X pins σ H s)
    (hch : ∀ b ∈ ch, (b ∈ X.ex ∨ X.s₀.heap.objs.size ≤ b) ∧ b ≠ X.env.locals ∧ (∀ x c, X.env.cells.lookup x = some c → c ≠ b) ∧ ∀ p ∈ X.pn ++ pins, p.1 ≠ b)
    (keep : ∀ b o, b ≠ X.env.locals → b ∉ X.fs → b ∉ ch → s.heap.get? b = some o → H b = none → h'.get? b = some o)
    (slot : ∀ b o, b ≠ X.env.locals → b ∈ X.fs → b ∉ ch → s.heap.get? b = some o → H b = none → ∃ sl, h'.get? b = some { o with slots := sl }) (free : ∀ b o, b ∉ ch → s.heap.get? b = some o → H b = none → H' b = none)
    (there : ∀ b o, b ∉ ch → s.heap.get? b = some o → ∃ o', h'.get? b = some o')
    (tups : ∀ b xs, H b = some (.tup xs) → H' b = some (.tup xs)) (frzs : ∀ b o u, H b = some (.frz o u) → H' b = some (.frz o u)) (tbls : ∀ b ps, H b = some (.tbl ps) → ∃ more, H' b = some (.tbl (ps ++ more)))
    (ns : ∀ m, s.heap.Ns X.env.locals m → h'.Ns X.env.locals m) (hok : HOk X.prog X.w H' h') (hg : AllBare g') :
    Inv X pins σ H' { s with heap := h', gens := g', drawn := d', toks := t' } := by
  have neL : ∀ b o, X.s₀.heap.get? b = some o → b ≠ X.env.locals := fun b o e => Nat.ne_of_lt (Nat.lt_of_lt_of_le (Heap.lt_size e) I.ok.above)
  have neC : ∀ b o, X.s₀.heap.get? b = some o → b ∉ X.ex → b ∉ ch := fun b o e hx hb => by
    rcases (hch b hb).1 with z | z
    · exact hx z
    · exact absurd (Nat.lt_of_lt_of_le (Heap.lt_size e) z) (Nat.lt_irrefl _)
  have cellK : ∀ x c, X.env.cells.lookup x = some c → ∀ v, s.heap.IsCell c v → h'.IsCell c v := fun x c e v ⟨o, ho, hd⟩ => by
    have nch : c ∉ ch := fun z => (hch c z).2.2.1 x c e rfl
    by_cases hc : c ∈ X.fs
    · obtain ⟨sl, q⟩ := slot c o (I.cne x c e) hc nch ho (I.freeC x c e)
      exact ⟨_, q, hd⟩
    · exact ⟨o, keep c o (I.cne x c e) hc nch ho (I.freeC x c e), hd⟩
  refine ⟨I.ok, I.os, hg, ⟨fun b o e n hb hx => ?_, fun b o e n hb hx => ?_, fun b o e n hx => ?_, fun b o e hx => ?_, fun b xs e => tups b xs (I.base.tups b xs e), fun b o xs e => frzs b o xs (I.base.frzs b o xs e), fun b ps e => ?_⟩, ?_, fun x c e => ?_, ?_, fun x c e => ?_, fun p hp => ?_, hok, I.len⟩
  · exact keep b o (neL b o e) hb (neC b o e hx) (I.base.keep b o e n hb hx) (I.base.free b o e n hx)
  · obtain ⟨sl, e1⟩ := I.base.slot b o e n hb hx
    obtain ⟨sl', e2⟩ := slot b _ (neL b o e) hb (neC b o e hx) e1 (I.base.free b o e n hx)
    exact ⟨sl', e2⟩
  · obtain ⟨o', e1⟩ := I.base.there b o e hx
    exact free b o' (neC b o e hx) e1 (I.base.free b o e n hx)
  · obtain ⟨o', e1⟩ := I.base.there b o e hx
    exact there b o' (neC b o e hx) e1
  · obtain ⟨m1, e1⟩ := I.base.tbls b ps e
    obtain ⟨m2, e2⟩ := tbls b _ e1
    exact ⟨m1 ++ m2, by rw [e2, Array.append_assoc]⟩
  · obtain ⟨m, hn, hl⟩ := I.loc
    refine ⟨m, ns m hn, fun i x v e1 e2 e3 => ?_⟩
    obtain ⟨u, r, l⟩ := hl i x v e1 e2 e3
    refine ⟨u, r, ?_⟩
    rcases l with l | ⟨k, c, e, z⟩
    · exact .inl l
    · exact .inr ⟨k, c, e, cellK x c e _ z⟩
  · obtain ⟨v, z⟩ := I.cell x c e
    exact ⟨v, cellK x c e v z⟩
  · obtain ⟨m, ⟨o, _, _, ho, _⟩, _⟩ := I.loc
    exact free _ o (fun z => (hch _ z).2.1 rfl) ho I.free
  · obtain ⟨v, o, ho, hd⟩ := I.cell x c e
    exact free c o (fun z => (hch c z).2.2.1 x c e rfl) ho (I.freeC x c e)
  · obtain ⟨e, n, ne, nf, d⟩ := I.pin p hp
    have nch : p.1 ∉ ch := fun z => (hch p.1 z).2.2.2 p hp rfl
    exact ⟨keep p.1 p.2 ne nf nch e n, free p.1 p.2 nch e n, ne, nf, d⟩
/-- .. where the frame's own object is kept too -/
theorem Inv.un {t' : Nat} (I : Inv X pins σ H s) (u : Un X.fs [] H H' s.heap h') (hok : HOk X.prog X.w H' h') : Inv X pins σ H' { s with heap := h', toks := t' } := by
  obtain ⟨m, ⟨o, es, ep, ho, r⟩, _⟩ := id I.loc
  obtain ⟨sl, hL⟩ := u.any ho I.free (by simp)
  exact I.step (g' := s.gens) (d' := s.drawn) (ch := []) (fun _ z => nomatch z) (fun b o _ hb _ e n => u.keep b o e n hb (by simp)) (fun b o _ hb _ e n => u.slot b o e n hb (by simp)) (fun b o _ e n => u.free b o e n (by simp)) (fun b o _ e => u.there b o e (by simp)) u.tups u.frzs u.tbls (fun m' hm => by
    obtain ⟨o', es', ep', ho', r'⟩ := hm
    rw [ho] at ho'; cases ho'
    exact ⟨_, es', ep', hL, r'⟩) hok I.bare
/-- behind a call (or a comprehension's block): the slots of this frame may have changed too, the records at ch may have turned -/
theorem Inv.call {g' : Array GenState} {t' : Nat} {d' : Drawn} {ch : List Addr} (I : Inv X pins σ H s) (u : Un (frs X.stack) ch H H' s.heap h') (hok : HOk X.prog X.w H' h') (hg : AllBare g')
    (hch : ∀ b ∈ ch, (b ∈ X.ex ∨ X.s₀.heap.objs.size ≤ b) ∧ b ≠ X.env.locals ∧ (∀ x c, X.env.cells.lookup x = some c → c ≠ b) ∧ ∀ p ∈ X.pn ++ pins, p.1 ≠ b) :
    Inv X pins σ H' { s with heap := h', gens := g', drawn := d', toks := t' } := by
  obtain ⟨m, ⟨o, es, ep, ho, r⟩, _⟩ := id I.loc
  obtain ⟨sl, hL⟩ := u.any ho I.free fun z => (hch _ z).2.1 rfl
  exact I.step (ch := ch) hch (fun b o hL hb hc e n => u.keep b o e n (fun z => (List.mem_cons.mp (I.stkSub b z)).elim hL hb) hc) (fun b o _ _ hc e n => u.any e n hc) (fun b o hc e n => u.free b o e n hc) (fun b o hc e => u.there b o e hc) u.tups u.frzs u.tbls (fun m' hm => by
    obtain ⟨o', es', ep', ho', r'⟩ := hm
    rw [ho] at ho'; cases ho'
    exact ⟨_, es', ep', hL, r'⟩) hok hg
/-- an untracked record of ours (an iterator) has turned -/
theorem Inv.turned {t' : Nat} {it : Addr} (I : Inv X pins σ H s) (k : ∀ b o, b ≠ it → s.heap.get? b = some o → h'.get? b = some o) (hn : H it = none) (hL : it ≠ X.env.locals)
    (h1 : it ∈ X.ex ∨ X.s₀.heap.objs.size ≤ it) (h2 : ∀ x c, X.env.cells.lookup x = some c → c ≠ it) (h3 : ∀ p ∈ X.pn ++ pins, p.1 ≠ it) : Inv X pins σ H { s with heap := h', toks := t' } := by
  have nit : ∀ b u, H b = some u → b ≠ it := fun b u e z => by rw [z, hn] at e; cases e
  refine I.step (g' := s.gens) (d' := s.drawn) (ch := [it]) (fun b hb => ?_) (fun b o _ _ hc e _ => k b o (fun z => hc (by simp [z])) e) (fun b o _ _ hc e _ => ⟨o.slots, k b o (fun z => hc (by simp [z])) e⟩) (fun _ _ _ _ n => n)
    (fun b o hc e => ⟨o, k b o (fun z => hc (by simp [z])) e⟩) (fun _ _ e => e) (fun _ _ _ e => e) (fun b ps e => ⟨#[], by rw [e]; simp⟩) (fun m hm => ?_) (fun b u e => ?_) I.bare
  · have e : b = it := by simpa using hb
    subst e
    exact ⟨h1, hL, h2, h3⟩
  · obtain ⟨o, es, ep, ho, r⟩ := hm
    exact ⟨o, es, ep, k _ o (Ne.symm hL) ho, r⟩
  · refine (I.hok b u e).stay (fun c v hc q => k c v ?_ q) (fun _ q => q) fun _ _ q => q
    rcases hc with z | z
    · rw [z]; exact nit b u e
    · exact nit c _ z
theorem Inv.tok (I : Inv X pins σ H s) (t : Nat) : Inv X pins σ H { s with toks := t } := I.un (h' := s.heap) (t' := t) Un.refl I.hok
/-- all objects kept -/
theorem Inv.kept {t' : Nat} (I : Inv X pins σ H s) (k : ∀ b u, s.heap.get? b = some u → h'.get? b = some u) : Inv X pins σ H { s with heap := h', toks := t' } := I.un (Un.kept k) (I.hok.kept k)
/-- a new object laid and tracked -/
theorem Inv.laid {a : Addr} {o : HO} {t' : Nat} (I : Inv X pins σ H s) (k : ∀ b u, s.heap.get? b = some u → h'.get? b = some u) (hp : s.heap.objs.size ≤ a) (new : ObjOk X.prog X.w (upd H a o) h' a o) :
    Inv X pins σ (upd H a o) { s with heap := h', toks := t' } := I.un (Un.laid k hp (I.hok.fresh hp)) (I.hok.laid k hp new)
/-- an object written -/
theorem Inv.write {x e : Addr} {o : HO} {t' : Nat} (I : Inv X pins σ H s) (mu : Mut (H x)) (he : e = x ∨ H e = some (.own x)) (k : ∀ b u, b ≠ e → s.heap.get? b = some u → h'.get? b = some u) (heo : ∃ u, h'.get? e = some u)
    (new : ObjOk X.prog X.w (upd H x o) h' x o) : Inv X pins σ (upd H x o) { s with heap := h', toks := t' } := I.un (Un.write mu he k heo) (I.hok.write mu he k heo new)
/-- forgetting slots, pins -/
theorem Inv.weak {σ' : List (Option V)} (I : Inv X pins σ H s) (hl : σ'.length = σ.length) (w : ∀ (i : Nat) v, σ'[i]? = some (some v) → σ[i]? = some (some v)) : Inv X pins σ' H s :=
  ⟨I.ok, I.os, I.bare, I.base, let ⟨m, hn, hl'⟩ := I.loc; ⟨m, hn, fun i x v e1 e2 e3 => hl' i x v e1 (w i v e2) e3⟩, I.cell, I.free, I.freeC, I.pin, I.hok, hl.trans I.len⟩
theorem Inv.pins_of {pins' : List (Addr × Obj)} (I : Inv X pins σ H s) (h : ∀ p ∈ pins', s.heap.get? p.1 = some p.2 ∧ H p.1 = none ∧ p.1 ≠ X.env.locals ∧ p.1 ∉ X.fs ∧ ∀ v, p.2.data ≠ .cell v) : Inv X pins' σ H s :=
  ⟨I.ok, I.os, I.bare, I.base, I.loc, I.cell, I.free, I.freeC, fun p hp => (List.mem_append.mp hp).elim (fun z => I.pin p (List.mem_append_left _ z)) (h p), I.hok, I.len⟩

theorem nodup_ix {N : List Str} (hN : N.Nodup) {i j : Nat} {x : Str} (a : N[i]? = some x) (b : N[j]? = some x) : i = j := by
  obtain ⟨h1, e1⟩ := List.getElem?_eq_some_iff.mp a
  obtain ⟨h2, e2⟩ := List.getElem?_eq_some_iff.mp b
  exact (List.getElem_inj hN).mp (e1.trans e2.symm)

/-- a name is stored; what changed -/
theorem store_ok2 {M : Model} {A : Around} {E : Value → Shared → Prop} {i : Nat} {x : Str} {v : V} {u : Value} {Q : Unit → Shared → Prop} (I : Inv X pins σ H s) (hN : X.N.Nodup) (hi : X.N[i]? = some x) (hx : Loc X.env.scope x) (r : RelV v u)
    (h : ∀ s', Inv X pins (σ.set i (some v)) H s' → (∃ a, Heap.SameBut a s.heap s'.heap ∧ (a = X.env.locals ∨ X.env.cells.lookup x = some a)) → Q () s') (hf : X.fn x = true ∨ X.env.scope.names.lookup x = some .local := by first | exact .inl rfl | exact .inr rfl | assumption) : wpAny M A (storeName X.env x u) Q E s := by
  obtain ⟨m, hn, hl⟩ := id I.loc
  have hcls : (X.env.scope.kind == .class || (X.env.scope.kind == .module && X.env.locals != X.env.globals)) = false := by rw [I.ok.kind]; rfl
  have hiσ : i < σ.length := by rw [I.len]; exact (List.getElem?_eq_some_iff.mp hi).1
  have cne := I.cne
  have tracked : ∀ {a : Addr} {h' : Heap}, (∃ o, s.heap.get? a = some o ∧ H a = none) → Heap.SameBut a s.heap h' → HOk X.prog X.w H h' := fun {a h'} ha hs b ob e => by
    obtain ⟨_, _, hfree⟩ := ha
    refine (I.hok b ob e).stay (fun c w' hc q => (hs.2 c ?_).trans q) (fun _ q => q) fun _ _ q => q
    rintro rfl
    rcases hc with rfl | hc
    · rw [hfree] at e; cases e
    · rw [hfree] at hc; cases hc
  rcases hx with hk | hk
  · refine wpAny_storeName_local hk hn (fun h' hn' hs => ?_) hcls
    obtain ⟨oL, _, _, hoL, _⟩ := id hn
    refine h _ ⟨I.ok, I.os, I.bare, ⟨fun b o e n hb hx => ?_, fun b o e n hb hx => ?_, I.base.free, fun b o e hx => ?_, I.base.tups, I.base.frzs, I.base.tbls⟩, ⟨_, hn', fun j y v' e1 e2 e3 => ?_⟩, fun y c e => ?_, I.free, I.freeC, fun p hp => ?_, tracked ⟨oL, hoL, I.free⟩ hs, by simpa using I.len⟩ ⟨_, hs, .inl rfl⟩
    · exact (hs.2 b (Nat.ne_of_lt (Nat.lt_of_lt_of_le (Heap.lt_size e) I.ok.above))).trans (I.base.keep b o e n hb hx)
    · obtain ⟨sl, e1⟩ := I.base.slot b o e n hb hx
      exact ⟨sl, (hs.2 b (Nat.ne_of_lt (Nat.lt_of_lt_of_le (Heap.lt_size e) I.ok.above))).trans e1⟩
    · obtain ⟨o', e1⟩ := I.base.there b o e hx
      exact ⟨o', (hs.2 b (Nat.ne_of_lt (Nat.lt_of_lt_of_le (Heap.lt_size e) I.ok.above))).trans e1⟩
    · by_cases hj : j = i
      · subst hj
        rw [hi] at e1; cases e1
        rw [List.getElem?_set_self hiσ] at e2
        cases e2
        exact ⟨u, r, .inl ⟨hk, by simp⟩⟩
      · rw [List.getElem?_set_ne (Ne.symm hj)] at e2
        obtain ⟨u', r', q⟩ := hl j y v' e1 e2 e3
        refine ⟨u', r', ?_⟩
        rcases q with ⟨k, e⟩ | ⟨k, c, e, z⟩
        · refine .inl ⟨k, ?_⟩
          have : y ≠ x := fun e => hj (nodup_ix hN e1 (e ▸ hi))
          simp [this, e]
        · exact .inr ⟨k, c, e, z.sameBut hs (cne y c e)⟩
    · obtain ⟨w', z⟩ := I.cell y c e
      exact ⟨w', z.sameBut hs (cne y c e)⟩
    · obtain ⟨e, n, ne, nf, d⟩ := I.pin p hp
      exact ⟨(hs.2 p.1 ne).trans e, n, ne, nf, d⟩
  · have hfn : X.fn x = true := by
      rcases hf with z | z
      · exact z
      · rw [z] at hk; cases hk
    obtain ⟨c, hc⟩ := I.ok.has x (.inl hk)
    obtain ⟨w', z⟩ := I.cell x c hc
    refine wpAny_storeName_cell I.ok.kind hk hc z (fun h' hc' hs => ?_)
    obtain ⟨oc, hoc, hocd⟩ := id z
    refine h { s with heap := h' } ⟨I.ok, I.os, I.bare, ⟨fun b o e n hb hx => ?_, fun b o e n hb hx => ?_, I.base.free, fun b o e hx => ?_, I.base.tups, I.base.frzs, I.base.tbls⟩, ⟨m, hn.sameBut hs (Ne.symm (cne x c hc)), fun j y v' e1 e2 e3 => ?_⟩, fun y c' e => ?_, I.free, I.freeC, fun p hp => ?_, tracked ⟨oc, hoc, I.freeC x c hc⟩ hs, by simpa using I.len⟩ ⟨c, hs, .inr hc⟩
    · exact (hs.2 b (Nat.ne_of_lt (Nat.lt_of_lt_of_le (Heap.lt_size e) (I.ok.cab x c hfn hc)))).trans (I.base.keep b o e n hb hx)
    · obtain ⟨sl, e1⟩ := I.base.slot b o e n hb hx
      exact ⟨sl, (hs.2 b (Nat.ne_of_lt (Nat.lt_of_lt_of_le (Heap.lt_size e) (I.ok.cab x c hfn hc)))).trans e1⟩
    · obtain ⟨o', e1⟩ := I.base.there b o e hx
      exact ⟨o', (hs.2 b (Nat.ne_of_lt (Nat.lt_of_lt_of_le (Heap.lt_size e) (I.ok.cab x c hfn hc)))).trans e1⟩
    · by_cases hj : j = i
      · subst hj
        rw [hi] at e1; cases e1
        rw [List.getElem?_set_self hiσ] at e2
        cases e2
        exact ⟨u, r, .inr ⟨.inl hk, c, hc, hc'⟩⟩
      · rw [List.getElem?_set_ne (Ne.symm hj)] at e2
        obtain ⟨u', r', q⟩ := hl j y v' e1 e2 e3
        refine ⟨u', r', ?_⟩
        rcases q with q | ⟨k, c', e, z'⟩
        · exact .inl q
        · refine .inr ⟨k, c', e, z'.sameBut hs ?_⟩
          rintro rfl
          exact hj (nodup_ix hN e1 (I.ok.inj _ _ _ e hc ▸ hi))
    · by_cases hcc : c' = c
      · subst hcc; exact ⟨_, hc'⟩
      · obtain ⟨w2, z2⟩ := I.cell y c' e
        exact ⟨w2, z2.sameBut hs hcc⟩
    · obtain ⟨e, n, ne, nf, d⟩ := I.pin p hp
      refine ⟨(hs.2 p.1 ?_).trans e, n, ne, nf, d⟩
      intro q
      rw [q, hoc] at e
      have q' : oc = p.2 := Option.some.inj e
      exact d w' (by rw [← q']; exact hocd)
theorem store_ok {M : Model} {A : Around} {E : Value → Shared → Prop} {i : Nat} {x : Str} {v : V} {u : Value} {Q : Unit → Shared → Prop} (I : Inv X pins σ H s) (hN : X.N.Nodup) (hi : X.N[i]? = some x) (hx : Loc X.env.scope x) (r : RelV v u)
    (h : ∀ s', Inv X pins (σ.set i (some v)) H s' → Q () s') (hf : X.fn x = true ∨ X.env.scope.names.lookup x = some .local := by first | exact .inl rfl | exact .inr rfl | assumption) : wpAny M A (storeName X.env x u) Q E s :=
  store_ok2 I hN hi hx r (fun s' I' _ => h s' I') hf
/-- behind a call or a block, the state as it is -/
theorem Inv.call' {s' : Shared} {ch : List Addr} (I : Inv X pins σ H s) (ho : s'.os = s.os) (u : Un (frs X.stack) ch H H' s.heap s'.heap) (hok : HOk X.prog X.w H' s'.heap) (hg : AllBare s'.gens)
    (hch : ∀ b ∈ ch, (b ∈ X.ex ∨ X.s₀.heap.objs.size ≤ b) ∧ b ≠ X.env.locals ∧ (∀ x c, X.env.cells.lookup x = some c → c ≠ b) ∧ ∀ p ∈ X.pn ++ pins, p.1 ≠ b) : Inv X pins σ H' s' := by
  obtain ⟨h', g', d', t', o'⟩ := s'
  have e : o' = s.os := ho
  subst e
  exact I.call (g' := g') (t' := t') (d' := d') u hok hg hch
end

/-! ### the judgements -/
/-- an exception: its class, its own dict's address (where it has one), the abstract heap behind it -/
abbrev XK := Value → Option Addr → Hp → Prop
abbrev St := List (Option V)
abbrev VK := V → Hp → Prop
/-- an expression's reading; a test's; an argument list's -/
abbrev TE := St → Hp → VK → Prop
abbrev TT := St → Hp → (Bool → Hp → Prop) → Prop
abbrev TA := St → Hp → (List V → Hp → Prop) → Prop
/-- what is wanted behind a statement -/
structure Ends where
  nx : St → Hp → Prop
  rt : VK
  bk : St → Hp → Prop := fun _ _ => False
  ct : St → Hp → Prop := fun _ _ => False
abbrev TS := Ends → St → Hp → Prop

def EP (X : Cx) (pins : List (Addr × Obj)) (σ : St) (Q : VK) (u : Value) (s' : Shared) : Prop := ∃ v H', Inv X pins σ H' s' ∧ RelV v u ∧ Q v H'
def TP (X : Cx) (pins : List (Addr × Obj)) (σ : St) (Q : Bool → Hp → Prop) (b : Bool) (s' : Shared) : Prop := ∃ H', Inv X pins σ H' s' ∧ Q b H'
def AP (X : Cx) (pins : List (Addr × Obj)) (σ : St) (Q : List V → Hp → Prop) (us : List Value) (s' : Shared) : Prop := ∃ vs H', Inv X pins σ H' s' ∧ Vals vs us ∧ Q vs H'
def SP (X : Cx) (pins : List (Addr × Obj)) (D : Ends) (f : Flow) (s' : Shared) : Prop :=
  match f with
  | .next => ∃ σ' H', Inv X pins σ' H' s' ∧ D.nx σ' H'
  | .brk => ∃ σ' H', Inv X pins σ' H' s' ∧ D.bk σ' H'
  | .cont => ∃ σ' H', Inv X pins σ' H' s' ∧ D.ct σ' H'
  | .ret u => ∃ v σ' H', Inv X pins σ' H' s' ∧ RelV v u ∧ D.rt v H'

def PE (X : Cx) (e : Expr) (t : TE) : Prop :=
  ∀ (pins : List (Addr × Obj)) (s : Shared) (σ : St) (H : Hp) (Q : VK), Inv X pins σ H s → t σ H Q → wpAny (model X.prog X.w) X.A (eval e X.env) (EP X pins σ Q) X.xe s
def PT (X : Cx) (e : Expr) (t : TT) : Prop :=
  ∀ (pins : List (Addr × Obj)) (s : Shared) (σ : St) (H : Hp) (Q : Bool → Hp → Prop), Inv X pins σ H s → t σ H Q → wpAny (model X.prog X.w) X.A (isTrue e X.env (eval e X.env)) (TP X pins σ Q) X.xe s
/-- a test whatever its 'whole' is (and, or) -/
def PW (X : Cx) (e : Expr) (t : TT) : Prop :=
  ∀ (whole : Sem Value) (pins : List (Addr × Obj)) (s : Shared) (σ : St) (H : Hp) (Q : Bool → Hp → Prop), Inv X pins σ H s → t σ H Q → wpAny (model X.prog X.w) X.A (isTrue e X.env whole) (TP X pins σ Q) X.xe s
theorem PW.pt {X : Cx} {e : Expr} {t : TT} (h : PW X e t) : PT X e t := h _
/-- an argument list (no star), from the left -/
def PA (X : Cx) (es : List Expr) (t : TA) : Prop :=
  ∀ (pos : Pos) (pins : List (Addr × Obj)) (s : Shared) (σ : St) (H : Hp) (Q : List V → Hp → Prop), Inv X pins σ H s → t σ H Q → wpAny (model X.prog X.w) X.A (spliced (backTo pos (starEach es X.env))) (AP X pins σ Q) X.xe s
def PS (X : Cx) (st : Stmt) (t : TS) : Prop :=
  ∀ (pins : List (Addr × Obj)) (s : Shared) (σ : St) (H : Hp) (D : Ends), Inv X pins σ H s → t D σ H → wpAny (model X.prog X.w) X.A (exec st X.env) (SP X pins D) X.xe s
def PSs (X : Cx) (st : List Stmt) (t : TS) : Prop :=
  ∀ (pins : List (Addr × Obj)) (s : Shared) (σ : St) (H : Hp) (D : Ends), Inv X pins σ H s → t D σ H → wpAny (model X.prog X.w) X.A (execs st X.env) (SP X pins D) X.xe s
/-- weaken the end -/
theorem thn {α : Type} {t : Sem α} {Q Q' : α → Shared → Prop} {M : Model} {A : Around} {E : Value → Shared → Prop} {s : Shared} (h : wpAny M A t Q E s) (hQ : ∀ a s, Q a s → Q' a s) : wpAny M A t Q' E s := wpAny_mono h hQ fun _ _ x => x
end L2

namespace L2
open PySem PySem.Spec PyProof.Rows
section
variable {X : Cx}

/-- two expressions in a row -/
theorem bin {a b : Expr} {ta tb : TE} (ha : PE X a ta) (hb : PE X b tb) {pins : List (Addr × Obj)} {s : Shared} {σ : St} {H : Hp} {R : V → V → Hp → Prop} (I : Inv X pins σ H s) (h : ta σ H fun x H1 => tb σ H1 fun y H2 => R x y H2)
    {α : Type} {Q : α → Shared → Prop} {f : Value → Value → Sem α}
    (hf : ∀ v u s2 x y H2, Inv X pins σ H2 s2 → RelV x v → RelV y u → R x y H2 → wpAny (model X.prog X.w) X.A (f v u) Q X.xe s2) :
    wpAny (model X.prog X.w) X.A (eval a X.env) (fun v s₁ => wpAny (model X.prog X.w) X.A (eval b X.env) (fun u s₂ => wpAny (model X.prog X.w) X.A (f v u) Q X.xe s₂) X.xe s₁) X.xe s := by
  refine thn (ha pins s σ H _ I h) fun v s1 ⟨x, H1, I1, r1, q1⟩ => ?_
  refine thn (hb pins s1 σ H1 _ I1 q1) fun u s2 ⟨y, H2, I2, r2, q2⟩ => ?_
  exact hf v u s2 x y H2 I2 r1 r2 q2

/-! ### names and constants -/
def tVar (i : Nat) : TE := fun σ H Q => ∃ v, σ[i]? = some (some v) ∧ Q v H
def tC (v : V) : TE := fun _ H Q => Q v H
theorem pe_var {i : Nat} {x : Str} {pos : Pos} (hN : X.N[i]? = some x) (hv : Vis X.env.scope x) (hd : (x == ("__debug__" : Str)) = false := by decide) (hcd : (x == ("__classdict__" : Str)) = false := by decide) : PE X (.Name x pos) (tVar i) := by
  intro pins s σ H Q I h
  obtain ⟨v, e, h⟩ := h
  obtain ⟨m, hn, hl⟩ := I.loc
  obtain ⟨u, r, l⟩ := hl i x v hN e hv
  have fin : EP X pins σ Q u s := ⟨v, H, I, r, h⟩
  rcases l with ⟨hk, hm⟩ | ⟨hk, c, hc, hcell⟩
  · exact wpAny_Name (wpAny_loadName_local I.ok.kind hk hn hm fin) hd
  · rcases hk with hk | hk
    · exact wpAny_Name (wpAny_loadName_cell I.ok.kind hk hc hcell fin) hd
    · exact wpAny_Name (wpAny_loadName_free I.ok.kind hk hc hcell fin hcd) hd
theorem pe_int {i j pos} : PE X (.Constant (.int i) j pos) (tC (.int i)) := fun _ _ _ H _ I h => wpAny_Constant_int ⟨.int i, H, I.tok _, ⟨_, rfl⟩, h⟩
theorem pe_bl {b j pos} : PE X (.Constant (.bool b) j pos) (tC (.bl b)) := fun _ _ _ H _ I h => Constant_bool ⟨.bl b, H, I, rfl, h⟩
theorem pe_non {j pos} : PE X (.Constant .none j pos) (tC .non) := fun _ _ _ H _ I h => Constant_none ⟨.non, H, I, rfl, h⟩
theorem pe_str {x j pos} : PE X (.Constant (.str x) j pos) (tC (.str x)) := fun _ _ _ H _ I h => Calls.Constant_str ⟨.str x, H, I.tok _, ⟨_, rfl⟩, h⟩

/-- a global name of the def -/
def Gl (X : Cx) (x : Str) : Prop := X.env.kindOf x = some .globalImplicit
theorem ld_glob {E : Value → Shared → Prop} {pins : List (Addr × Obj)} {s : Shared} {σ : St} {H : Hp} {x : Str} {u : Value} {pos : Pos} {Q : Value → Shared → Prop} (I : Inv X pins σ H s) (hg : Gl X x) (hm : X.mg x = some u) (h : Q u s)
    (hd : (x == ("__debug__" : Str)) = false := by decide) : wpAny (model X.prog X.w) X.A (eval (.Name x pos) X.env) Q E s :=
  Calls.Name_function_global I.ok.kind hg (Calls.loadGlobal_global (by rw [I.ok.glob]; exact I.mod.glob.keeps I.bk) hm h) hd
theorem ld_blt {E : Value → Shared → Prop} {pins : List (Addr × Obj)} {s : Shared} {σ : St} {H : Hp} {x : Str} {u : Value} {pos : Pos} {Q : Value → Shared → Prop} (I : Inv X pins σ H s) (hg : Gl X x) (hm : X.mg x = none) (hv : bootBuiltins x = some u) (h : Q u s)
    (hn : x ≠ "__name__" := by decide) (hd : (x == ("__debug__" : Str)) = false := by decide) : wpAny (model X.prog X.w) X.A (eval (.Name x pos) X.env) Q E s := by
  obtain ⟨mb, h1, h2⟩ := I.mod.blt
  exact Calls.Name_function_global I.ok.kind hg (Calls.loadGlobal_builtin (by rw [I.ok.glob]; exact I.mod.glob.keeps I.bk) hm (by rw [I.ok.blt]; exact h1.keeps I.bk) ((h2 x hn).trans hv) h) hd
/-- a module's constant, a class, a function, as a value -/
theorem pe_glob {x : Str} {v : V} {u : Value} {pos : Pos} (hg : Gl X x) (hm : X.mg x = some u) (r : RelV v u) (hd : (x == ("__debug__" : Str)) = false := by decide) : PE X (.Name x pos) (tC v) :=
  fun _ _ _ H _ I h => ld_glob I hg hm ⟨v, H, I, r, h⟩ hd
theorem pe_bltn {x : Str} {v : V} {u : Value} {pos : Pos} (hg : Gl X x) (hm : X.mg x = none) (hv : bootBuiltins x = some u) (r : RelV v u) (hn : x ≠ "__name__" := by decide) (hd : (x == ("__debug__" : Str)) = false := by decide) : PE X (.Name x pos) (tC v) :=
  fun _ _ _ H _ I h => ld_blt I hg hm hv ⟨v, H, I, r, h⟩ hn hd

/-! ### arithmetic -/
/-- two ints -/
def t2I (ta tb : TE) (k : Int → Int → Hp → Prop) : St → Hp → Prop := fun σ H => ta σ H fun x H1 => tb σ H1 fun y H2 => ∃ i j, x = .int i ∧ y = .int j ∧ k i j H2
def tAdd (ta tb : TE) : TE := fun σ H Q => t2I ta tb (fun i j H2 => Q (.int (i + j)) H2) σ H
def tSub (ta tb : TE) : TE := fun σ H Q => t2I ta tb (fun i j H2 => Q (.int (i - j)) H2) σ H
/-- the left factor below 2^64 -/
def tMul (ta tb : TE) : TE := fun σ H Q => t2I ta tb (fun i j H2 => (-(2 ^ 64) < i ∧ i < 2 ^ 64) ∧ Q (.int (i * j)) H2) σ H
variable {a b : Expr} {ta tb : TE} {pos : Pos}
theorem pe_add (ha : PE X a ta) (hb : PE X b tb) : PE X (.BinOp a .Add b pos) (tAdd ta tb) := by
  intro pins s σ H Q I h
  refine wpAny_BinOp (bin ha hb I h fun v u s2 x y H2 I2 rx ry q => ?_)
  obtain ⟨i, j, rfl, rfl, q⟩ := q
  obtain ⟨t, rfl⟩ := rx
  obtain ⟨t', rfl⟩ := ry
  exact add_int ⟨.int _, H2, I2.tok _, ⟨_, rfl⟩, q⟩
theorem pe_sub (ha : PE X a ta) (hb : PE X b tb) : PE X (.BinOp a .Sub b pos) (tSub ta tb) := by
  intro pins s σ H Q I h
  refine wpAny_BinOp (bin ha hb I h fun v u s2 x y H2 I2 rx ry q => ?_)
  obtain ⟨i, j, rfl, rfl, q⟩ := q
  obtain ⟨t, rfl⟩ := rx
  obtain ⟨t', rfl⟩ := ry
  exact sub_int ⟨.int _, H2, I2.tok _, ⟨_, rfl⟩, q⟩
theorem pe_mul (ha : PE X a ta) (hb : PE X b tb) : PE X (.BinOp a .Mult b pos) (tMul ta tb) := by
  intro pins s σ H Q I h
  refine wpAny_BinOp (bin ha hb I h fun v u s2 x y H2 I2 rx ry q => ?_)
  obtain ⟨i, j, rfl, rfl, ⟨q1, q2⟩, q⟩ := q
  obtain ⟨t, rfl⟩ := rx
  obtain ⟨t', rfl⟩ := ry
  exact mul_int ⟨.int _, H2, I2.tok _, ⟨_, rfl⟩, q⟩ (.of_left (intBits_le_64 q1 q2))

/-! ### comparisons -/
def PC (X : Cx) (op : CmpOp) (a b : Expr) (t : TE) : Prop :=
  ∀ (pins : List (Addr × Obj)) (s : Shared) (σ : St) (H : Hp) (Q : VK), Inv X pins σ H s → t σ H Q →
    wpAny (model X.prog X.w) X.A (eval a X.env) (fun v s₁ => wpAny (model X.prog X.w) X.A (eval b X.env) (fun u s₂ => wpAny (model X.prog X.w) X.A (compareOp op v u) (EP X pins σ Q) X.xe s₂) X.xe s₁) X.xe s
theorem nobehind (b : Expr) {op : CmpOp} (h : op ≠ .In) (h2 : op ≠ .NotIn) : behindInMarks op b = false := by
  have e1 : (op == CmpOp.In) = false := by cases op <;> first | rfl | exact absurd rfl h
  have e2 : (op == CmpOp.NotIn) = false := by cases op <;> first | rfl | exact absurd rfl h2
  cases b <;> simp [behindInMarks, e1, e2]
def tCmp (p : Int → Int → Bool) (ta tb : TE) : TE := fun σ H Q => t2I ta tb (fun i j H2 => Q (.bl (p i j)) H2) σ H
abbrev tLt : TE → TE → TE := tCmp fun i j => decide (i < j)
abbrev tLe : TE → TE → TE := tCmp fun i j => decide (i ≤ j)
abbrev tGt : TE → TE → TE := tCmp fun i j => decide (j < i)
abbrev tGe : TE → TE → TE := tCmp fun i j => decide (j ≤ i)
abbrev tEqI : TE → TE → TE := tCmp fun i j => decide (i = j)
abbrev tNeI : TE → TE → TE := tCmp fun i j => !decide (i = j)
/-- a comparison of two ints, by its rule -/
theorem pc_int {op : CmpOp} {p : Int → Int → Bool} (ha : PE X a ta) (hb : PE X b tb)
    (rule : ∀ (i j : Int) (t u : Tok) (Q : Value → Shared → Prop) (s : Shared), Q (.bool (p i j)) s → wpAny (model X.prog X.w) X.A (compareOp op (.int i t) (.int j u)) Q X.xe s) : PC X op a b (tCmp p ta tb) := by
  intro pins s σ H Q I h
  refine bin ha hb I h fun v u s2 x y H2 I2 rx ry q => ?_
  obtain ⟨i, j, rfl, rfl, q⟩ := q
  obtain ⟨t, rfl⟩ := rx
  obtain ⟨t', rfl⟩ := ry
  exact rule i j t t' _ s2 ⟨.bl _, H2, I2, rfl, q⟩
theorem pc_lt (ha : PE X a ta) (hb : PE X b tb) : PC X .Lt a b (tLt ta tb) := pc_int ha hb fun _ _ _ _ _ _ h => lt_int h
theorem pc_le (ha : PE X a ta) (hb : PE X b tb) : PC X .LtE a b (tLe ta tb) := pc_int ha hb fun _ _ _ _ _ _ h => le_int h
theorem pc_gt (ha : PE X a ta) (hb : PE X b tb) : PC X .Gt a b (tGt ta tb) := pc_int ha hb fun _ _ _ _ _ _ h => gt_int h
theorem pc_ge (ha : PE X a ta) (hb : PE X b tb) : PC X .GtE a b (tGe ta tb) := pc_int ha hb fun _ _ _ _ _ _ h => ge_int h
theorem pc_eqI (ha : PE X a ta) (hb : PE X b tb) : PC X .Eq a b (tEqI ta tb) := pc_int ha hb fun _ _ _ _ _ _ h => eq_int (by rw [Bool.beq_eq_decide_eq]; exact h)
theorem pc_neI (ha : PE X a ta) (hb : PE X b tb) : PC X .NotEq a b (tNeI ta tb) := pc_int ha hb fun _ _ _ _ _ _ h => ne_int (by rw [bne, Bool.beq_eq_decide_eq]; exact h)
/-- is None -/
def tIsN (ta : TE) : TE := fun σ H Q => ta σ H fun x H1 => Q (.bl (decide (x = .non))) H1
def tNotN (ta : TE) : TE := fun σ H Q => ta σ H fun x H1 => Q (.bl (!decide (x = .non))) H1
theorem RelV.none_iff {x : V} {v : Value} (r : RelV x v) : (v == Value.none) = decide (x = .non) := by
  cases x with
  | non => cases r; rfl
  | bl _ => cases r; rfl
  | int _ => obtain ⟨t, rfl⟩ := r; rfl
  | str _ => obtain ⟨t, rfl⟩ := r; rfl
  | byt _ => obtain ⟨t, rfl⟩ := r; rfl
  | flt _ => obtain ⟨t, rfl⟩ := r; rfl
  | ref _ => cases r; rfl
  | ty _ => cases r; rfl
theorem pc_isN {j pos'} (ha : PE X a ta) : PC X .Is a (.Constant .none j pos') (tIsN ta) := by
  intro pins s σ H Q I h
  refine thn (ha pins s σ H _ I h) fun v s1 ⟨x, H1, I1, r1, q1⟩ => ?_
  exact Constant_none (is_none_gen ⟨.bl _, H1, I1, by rw [r1.none_iff]; rfl, q1⟩)
theorem pc_notN {j pos'} (ha : PE X a ta) : PC X .IsNot a (.Constant .none j pos') (tNotN ta) := by
  intro pins s σ H Q I h
  refine thn (ha pins s σ H _ I h) fun v s1 ⟨x, H1, I1, r1, q1⟩ => ?_
  exact Constant_none (isnot_none_gen ⟨.bl _, H1, I1, by rw [r1.none_iff]; rfl, q1⟩)
/-- a comparison as a value, as a test -/
def tB (t : TE) : TT := fun σ H Q => t σ H fun x H1 => ∃ c, x = .bl c ∧ Q c H1
theorem pe_cmp {op : CmpOp} {t : TE} (h : PC X op a b t) (h1 : behindInMarks op b = false := by first | exact nobehind _ (by decide) (by decide) | rfl) : PE X (.Compare a [op] [b] pos) t := fun pins s σ H Q I hw => wpAny_Compare1 (h pins s σ H Q I hw) h1
theorem pt_cmp {op : CmpOp} {t : TE} (h : PC X op a b t) (h1 : behindInMarks op b = false := by first | exact nobehind _ (by decide) (by decide) | rfl) : PT X (.Compare a [op] [b] pos) (tB t) := by
  intro pins s σ H Q I hw
  refine wpAny_isTrue_Compare1 (thn (h pins s σ H _ I hw) fun v s1 h1 => thn h1 fun u s2 h2 => thn h2 fun c s3 ⟨x, H1, I1, r1, q1⟩ => ?_) h1
  obtain ⟨d, rfl, q⟩ := q1
  cases r1
  exact wpAny_truthy_bool ⟨H1, I1, q⟩
/-- an expression whose value is a bool, as a test -/
theorem pt_val {e : Expr} {t : TE} (h : PE X e t) (he : ∀ whole, isTrue e X.env whole = (do let v ← whole; standAt e.pos; holding [v] (truthy v)) := by intro _; rfl) : PT X e (tB t) := by
  intro pins s σ H Q I hw
  refine isTrue_plain (thn (h pins s σ H _ I hw) fun v s1 ⟨x, H1, I1, r1, q1⟩ => ?_) (he _)
  obtain ⟨d, rfl, q⟩ := q1
  cases r1
  exact wpAny_truthy_bool ⟨H1, I1, q⟩

/-! ### and, or, not -/
variable {tA tB' : TT} {rest : List Expr}
def tAnd (t u : TT) : TT := fun σ H Q => t σ H fun c H1 => if c = true then u σ H1 Q else Q false H1
def tOr (t u : TT) : TT := fun σ H Q => t σ H fun c H1 => if c = true then Q true H1 else u σ H1 Q
def tNot (t : TT) : TT := fun σ H Q => t σ H fun c H1 => Q (!c) H1
theorem pw_and1 (ha : PT X a tA) : PW X (.BoolOp .And [a] pos) tA := by
  intro wh pins s σ H Q I h
  refine isTrue_and (thn (ha pins s σ H Q I h) fun c s1 e => ?_)
  cases c with
  | true => exact isTrue_and_nil e
  | false => exact e
theorem pw_or1 (ha : PT X a tA) : PW X (.BoolOp .Or [a] pos) tA := by
  intro wh pins s σ H Q I h
  refine isTrue_or (thn (ha pins s σ H Q I h) fun c s1 e => ?_)
  cases c with
  | false => exact isTrue_or_nil e
  | true => exact e
theorem pw_and (ha : PT X a tA) (hb : PW X (.BoolOp .And (b :: rest) pos) tB') : PW X (.BoolOp .And (a :: b :: rest) pos) (tAnd tA tB') := by
  intro wh pins s σ H Q I h
  refine isTrue_and (thn (ha pins s σ H _ I h) fun c s1 ⟨H1, I1, q1⟩ => ?_)
  cases c with
  | true => exact hb wh pins s1 σ H1 Q I1 q1
  | false => exact ⟨H1, I1, q1⟩
theorem pw_or (ha : PT X a tA) (hb : PW X (.BoolOp .Or (b :: rest) pos) tB') : PW X (.BoolOp .Or (a :: b :: rest) pos) (tOr tA tB') := by
  intro wh pins s σ H Q I h
  refine isTrue_or (thn (ha pins s σ H _ I h) fun c s1 ⟨H1, I1, q1⟩ => ?_)
  cases c with
  | true => exact ⟨H1, I1, q1⟩
  | false => exact hb wh pins s1 σ H1 Q I1 q1
theorem pt_not (ha : PT X a tA) : PT X (.UnaryOp .Not a pos) (tNot tA) := by
  intro pins s σ H Q I h
  exact isTrue_not (ha pins s σ H (fun c H1 => Q (!c) H1) I h)
/-- .. as values (bools) -/
def tAndV (ta tb : TE) : TE := fun σ H Q => ta σ H fun x H1 => ∃ c, x = .bl c ∧ if c = true then tb σ H1 Q else Q (.bl false) H1
def tOrV (ta tb : TE) : TE := fun σ H Q => ta σ H fun x H1 => ∃ c, x = .bl c ∧ if c = true then Q (.bl true) H1 else tb σ H1 Q
def tNotV (ta : TE) : TE := fun σ H Q => ta σ H fun x H1 => ∃ c, x = .bl c ∧ Q (.bl (!c)) H1
theorem pe_one {op} {t : TE} (h : PE X a t) : PE X (.BoolOp op [a] pos) t := fun pins s σ H Q I hw => BoolOp_one (h pins s σ H Q I hw)
theorem pe_and (ha : PE X a ta) (hb : PE X (.BoolOp .And (b :: rest) pos) tb) : PE X (.BoolOp .And (a :: b :: rest) pos) (tAndV ta tb) := by
  intro pins s σ H Q I h
  refine BoolOp_and (thn (ha pins s σ H _ I h) fun v s1 ⟨x, H1, I1, r1, q1⟩ => ?_)
  obtain ⟨c, rfl, q1⟩ := q1
  cases r1
  refine wpAny_truthy_bool ?_
  cases c with
  | true => exact hb pins s1 σ H1 Q I1 q1
  | false => exact ⟨.bl false, H1, I1, rfl, q1⟩
theorem pe_or (ha : PE X a ta) (hb : PE X (.BoolOp .Or (b :: rest) pos) tb) : PE X (.BoolOp .Or (a :: b :: rest) pos) (tOrV ta tb) := by
  intro pins s σ H Q I h
  refine BoolOp_or (thn (ha pins s σ H _ I h) fun v s1 ⟨x, H1, I1, r1, q1⟩ => ?_)
  obtain ⟨c, rfl, q1⟩ := q1
  cases r1
  refine wpAny_truthy_bool ?_
  cases c with
  | false => exact hb pins s1 σ H1 Q I1 q1
  | true => exact ⟨.bl true, H1, I1, rfl, q1⟩
theorem pe_not (ha : PE X a ta) : PE X (.UnaryOp .Not a pos) (tNotV ta) := by
  intro pins s σ H Q I h
  refine UnaryOp_ (thn (ha pins s σ H _ I h) fun v s1 ⟨x, H1, I1, r1, q1⟩ => ?_)
  obtain ⟨c, rfl, q1⟩ := q1
  cases r1
  exact not_of (wpAny_truthy_bool ⟨.bl (!c), H1, I1, rfl, q1⟩)
/-- a if t else b -/
def tIf (t : TT) (ta tb : TE) : TE := fun σ H Q => t σ H fun c H1 => if c = true then ta σ H1 Q else tb σ H1 Q
theorem pe_ifExp {c : Expr} (hc : PT X c tA) (ha : PE X a ta) (hb : PE X b tb) : PE X (.IfExp c a b pos) (tIf tA ta tb) := by
  intro pins s σ H Q I h
  refine wpAny_IfExp (thn (hc pins s σ H _ I h) fun d s1 ⟨H1, I1, q1⟩ => ?_)
  cases d with
  | true => exact ha pins s1 σ H1 Q I1 q1
  | false => exact hb pins s1 σ H1 Q I1 q1
end
end L2

namespace L2
open PySem PySem.Spec PyProof.Rows

/-! ### a list, a tuple that is read: tracked, frozen, or an object of the module -/
def SqL (K : PySem.W.Frag) (H : Hp) (a : Addr) (xs : List V) : Prop :=
  Rd H a (.lst xs) ∨
    ∃ (o : Obj) (its : Array Value) (n : Nat), K.lookup a = some o ∧ o.cls = .type "list" ∧ o.dict = none ∧ o.data = .seq its n ∧ its.size ≤ sizeLine ∧ Vals xs its.toList
def SqT (K : PySem.W.Frag) (H : Hp) (a : Addr) (xs : List V) : Prop :=
  Rd H a (.tup xs) ∨
    ∃ (o : Obj) (its : Array Value) (n : Nat), K.lookup a = some o ∧ o.cls = .type "tuple" ∧ o.data = .seq its n ∧ its.size ≤ sizeLine ∧ Vals xs its.toList
def absV : Value → Option V
  | .none => some .non
  | .bool b => some (.bl b)
  | .int i _ => some (.int i)
  | .str x _ => some (.str x)
  | .bytes b _ => some (.byt b)
  | .float b _ => some (.flt b)
  | .ref a => some (.ref a)
  | .type n => some (.ty n)
  | _ => none
theorem RelV.abs {x : V} {u : Value} (r : RelV x u) : absV u = some x := by
  cases x with
  | non => cases r; rfl
  | bl _ => cases r; rfl
  | int _ => obtain ⟨t, rfl⟩ := r; rfl
  | str _ => obtain ⟨t, rfl⟩ := r; rfl
  | byt _ => obtain ⟨t, rfl⟩ := r; rfl
  | flt _ => obtain ⟨t, rfl⟩ := r; rfl
  | ref _ => cases r; rfl
  | ty _ => cases r; rfl
theorem RelV.inj {x y : V} {u : Value} (r : RelV x u) (q : RelV y u) : x = y := Option.some.inj (r.abs.symm.trans q.abs)
theorem Vals.inj : ∀ {xs ys : List V} {us : List Value}, Vals xs us → Vals ys us → xs = ys
  | _, _, _, .nil, .nil => rfl
  | _, _, _, .cons r t, .cons r' t' => by rw [r.inj r', Vals.inj t t']
section
variable {X : Cx} {pins : List (Addr × Obj)} {σ : St} {H : Hp} {s : Shared} {a : Addr} {xs ys : List V}
theorem SqL.of {K : PySem.W.Frag} (h : H a = some (.lst xs)) : SqL K H a xs := .inl (.inl h)
theorem SqT.of {K : PySem.W.Frag} (h : H a = some (.tup xs)) : SqT K H a xs := .inl (.inl h)
theorem Inv.list (I : Inv X pins σ H s) (h : SqL X.K H a xs) : ∃ its : List Value, Vals xs its ∧ PlainL s.heap a its.toArray ∧ xs.length ≤ sizeLine := by
  rcases h with h | ⟨o, its, n, hk, hc, hd, hs, hz, r⟩
  · obtain ⟨z, its, n, r, e⟩ := h.ok I.hok
    exact ⟨its, r, ⟨_, n, e, rfl, rfl, rfl⟩, z⟩
  · refine ⟨its.toList, r, ⟨o, n, I.kIn a o hk, hc, hd, by simpa using hs⟩, ?_⟩
    have e := r.length
    simp only [Array.length_toList] at e
    omega
theorem Inv.tuple (I : Inv X pins σ H s) (h : SqT X.K H a xs) : ∃ its : List Value, Vals xs its ∧ IsTup s.heap a its.toArray ∧ xs.length ≤ sizeLine := by
  rcases h with h | ⟨o, its, n, hk, hc, hs, hz, r⟩
  · obtain ⟨z, its, r, p⟩ := h.ok I.hok
    exact ⟨its, r, p, z⟩
  · refine ⟨its.toList, r, ⟨o, I.kIn a o hk, hc, n, by simpa using hs⟩, ?_⟩
    have e := r.length
    simp only [Array.length_toList] at e
    omega
theorem Inv.list_inj (I : Inv X pins σ H s) (h : SqL X.K H a xs) (h' : SqL X.K H a ys) : xs = ys := by
  obtain ⟨its, r, ⟨o, n, e, _, _, d⟩, _⟩ := I.list h
  obtain ⟨its', r', ⟨o', n', e', _, _, d'⟩, _⟩ := I.list h'
  rw [e] at e'; cases e'
  rw [d] at d'
  injection d' with d1 _
  have : its = its' := by simpa using congrArg Array.toList d1
  subst this
  exact r.inj r'
theorem Inv.tuple_inj (I : Inv X pins σ H s) (h : SqT X.K H a xs) (h' : SqT X.K H a ys) : xs = ys := by
  obtain ⟨its, r, ⟨o, e, _, n, d⟩, _⟩ := I.tuple h
  obtain ⟨its', r', ⟨o', e', _, n', d'⟩, _⟩ := I.tuple h'
  rw [e] at e'; cases e'
  rw [d] at d'
  injection d' with d1 _
  have : its = its' := by simpa using congrArg Array.toList d1
  subst this
  exact r.inj r'
end

/-! ### another wish about exceptions -/
abbrev Cx.wish (X : Cx) (E : Value → Shared → Prop) : Cx := { X with xe := E }
/-- no exception leaves -/
abbrev Cx.nox (X : Cx) : Cx := X.wish fun _ _ => False
theorem Cx.Ok.wish {X : Cx} (ok : X.Ok) (E : Value → Shared → Prop) : (X.wish E).Ok :=
  ⟨ok.mod, ok.kind, ok.glob, ok.blt, ok.above, ok.inj, ok.has, ok.cab, ok.hd, ok.frames, ok.stk, ok.exf, ok.bs, ok.bsz, ok.noex, ok.exfs, ok.funs, ok.frf⟩
theorem Cx.Ok.unwish {X : Cx} {E : Value → Shared → Prop} (ok : (X.wish E).Ok) : X.Ok :=
  ⟨ok.mod, ok.kind, ok.glob, ok.blt, ok.above, ok.inj, ok.has, ok.cab, ok.hd, ok.frames, ok.stk, ok.exf, ok.bs, ok.bsz, ok.noex, ok.exfs, ok.funs, ok.frf⟩
section
variable {X : Cx} {pins : List (Addr × Obj)} {σ : St} {H : Hp} {s : Shared} {E : Value → Shared → Prop}
theorem Inv.wish (I : Inv X pins σ H s) (E : Value → Shared → Prop) : Inv (X.wish E) pins σ H s := ⟨I.ok.wish E, I.os, I.bare, I.base, I.loc, I.cell, I.free, I.freeC, I.pin, I.hok, I.len⟩
theorem Inv.unwish (I : Inv (X.wish E) pins σ H s) : Inv X pins σ H s := ⟨I.ok.unwish, I.os, I.bare, I.base, I.loc, I.cell, I.free, I.freeC, I.pin, I.hok, I.len⟩
theorem SP.unwish {D : Ends} {f : Flow} {s' : Shared} (h : SP (X.wish E) pins D f s') : SP X pins D f s' := by
  cases f with
  | next => obtain ⟨σ', H', I, q⟩ := h; exact ⟨σ', H', I.unwish, q⟩
  | brk => obtain ⟨σ', H', I, q⟩ := h; exact ⟨σ', H', I.unwish, q⟩
  | cont => obtain ⟨σ', H', I, q⟩ := h; exact ⟨σ', H', I.unwish, q⟩
  | ret u => obtain ⟨v, σ', H', I, r, q⟩ := h; exact ⟨v, σ', H', I.unwish, r, q⟩
theorem PE.nox {e : Expr} {t : TE} (h : PE X.nox e t) : PE X e t := fun pins s σ H Q I hw =>
  wpAny_mono (h pins s σ H Q (I.wish _) hw) (fun _ _ ⟨v, H', I', r, q⟩ => ⟨v, H', I'.unwish, r, q⟩) fun _ _ z => False.elim z
theorem PT.nox {e : Expr} {t : TT} (h : PT X.nox e t) : PT X e t := fun pins s σ H Q I hw =>
  wpAny_mono (h pins s σ H Q (I.wish _) hw) (fun _ _ ⟨H', I', q⟩ => ⟨H', I'.unwish, q⟩) fun _ _ z => False.elim z
theorem PSs.nox {st : List Stmt} {t : TS} (h : PSs X.nox st t) : PSs X st t := fun pins s σ H D I hw =>
  wpAny_mono (h pins s σ H D (I.wish _) hw) (fun _ _ q => q.unwish) fun _ _ z => False.elim z
end

/-! ### blocks and small statements -/
section
variable {X : Cx} {st : Stmt} {rest : List Stmt} {t u : TS} {e : Expr} {te : TE} {pos : Pos}
def tNext : TS := fun D σ H => D.nx σ H
def tSeq (t u : TS) : TS := fun D σ H => t { D with nx := u D } σ H
theorem pss_nil : PSs X [] tNext := fun _ _ σ H _ I h => wpAny_execs_nil ⟨σ, H, I, h⟩
theorem pss_cons (h1 : PS X st t) (h2 : PSs X rest u) : PSs X (st :: rest) (tSeq t u) := by
  intro pins s σ H D I h
  refine wpAny_execs_cons (thn (h1 pins s σ H { D with nx := u D } I h) fun f s1 q => ?_)
  cases f with
  | next =>
    obtain ⟨σ', H', I', q⟩ := q
    exact h2 pins s1 σ' H' D I' q
  | ret v => exact q
  | brk => exact q
  | cont => exact q
theorem pss_one (h1 : PS X st t) : PSs X [st] t := by
  intro pins s σ H D I h
  refine wpAny_execs_cons (thn (h1 pins s σ H D I h) fun f s1 q => ?_)
  cases f with
  | next => exact wpAny_execs_nil q
  | ret v => exact q
  | brk => exact q
  | cont => exact q
def tBreak : TS := fun D σ H => D.bk σ H
def tCont : TS := fun D σ H => D.ct σ H
theorem ps_pass : PS X (.Pass pos) tNext := fun _ _ σ H _ I h => wpAny_Pass ⟨σ, H, I, h⟩
theorem ps_break : PS X (.Break pos) tBreak := fun _ _ σ H _ I h => wpAny_Break ⟨σ, H, I, h⟩
theorem ps_continue : PS X (.Continue pos) tCont := fun _ _ σ H _ I h => wpAny_Continue ⟨σ, H, I, h⟩
/-- in a def's body nothing is shown -/
theorem Inv.quiet {pins : List (Addr × Obj)} {σ : St} {H : Hp} {s : Shared} (I : Inv X pins σ H s) : interactive X.env = false := by simp [interactive, I.ok.kind]
/-- a docstring -/
theorem ps_doc {x j pos pos'} : PS X (.Expr (.Constant (.str x) j pos) pos') tNext := fun _ s σ H _ I h => wpAny_Expr (Calls.Constant_str (show SP X _ _ .next { s with toks := s.toks + 1 } from ⟨σ, H, I.tok _, h⟩)) I.quiet
/-- an expression whose value is dropped -/
def tDrop (te : TE) : TS := fun D σ H => te σ H fun _ H1 => D.nx σ H1
theorem ps_expr (he : PE X e te) (hs : swapsWith e none pos.line X.env = pure false := by rfl) : PS X (.Expr e pos) (tDrop te) := by
  intro pins s σ H D I h
  exact wpAny_Expr_any (thn (he pins s σ H _ I h) fun v s1 ⟨x, H1, I1, r1, q1⟩ => ⟨σ, H1, I1, q1⟩) I.quiet hs
def tRet (te : TE) : TS := fun D σ H => te σ H D.rt
theorem ps_ret (he : PE X e te) : PS X (.Return (some e) pos) (tRet te) := by
  intro pins s σ H D I h
  exact wpAny_Return_some (thn (he pins s σ H _ I h) fun v s1 ⟨x, H1, I1, r1, q1⟩ => ⟨x, σ, H1, I1, r1, q1⟩)
def tRetN : TS := fun D _ H => D.rt .non H
theorem ps_retN : PS X (.Return none pos) tRetN := fun _ _ σ H _ I h => wpAny_Return_none ⟨.non, σ, H, I, rfl, h⟩
def tIfS (c : TT) (t u : TS) : TS := fun D σ H => c σ H fun b H1 => if b = true then t D σ H1 else u D σ H1
theorem ps_if {c : Expr} {a b : List Stmt} {tc : TT} (hc : PT X c tc) (ha : PSs X a t) (hb : PSs X b u) : PS X (.If c a b pos) (tIfS tc t u) := by
  intro pins s σ H D I h
  refine wpAny_If (thn (hc pins s σ H _ I h) fun d s1 ⟨H1, I1, q1⟩ => ?_)
  cases d with
  | true => exact ha pins s1 σ H1 D I1 q1
  | false => exact hb pins s1 σ H1 D I1 q1
/-- code that the proof never comes to -/
def tNever : TS := fun _ _ _ => False
theorem ps_never : PS X st tNever := fun _ _ _ _ _ _ h => h.elim
theorem pss_never {sts : List Stmt} : PSs X sts tNever := fun _ _ _ _ _ _ h => h.elim
end

/-! ### targets -/
abbrev TG := V → St → Hp → (St → Hp → Prop) → Prop
abbrev TGs := List V → St → Hp → (St → Hp → Prop) → Prop
def PG (X : Cx) (target : Expr) (t : TG) : Prop :=
  ∀ (pins : List (Addr × Obj)) (s : Shared) (σ : St) (H : Hp) (v : V) (u : Value) (Q : St → Hp → Prop), Inv X pins σ H s → RelV v u → t v σ H Q →
    wpAny (model X.prog X.w) X.A (assign target X.env u) (fun _ s' => ∃ σ' H', Inv X pins σ' H' s' ∧ Q σ' H') X.xe s
/-- several targets, one after another -/
def PGs (X : Cx) (ts : List Expr) (t : TGs) : Prop :=
  ∀ (pins : List (Addr × Obj)) (s : Shared) (σ : St) (H : Hp) (vs : List V) (us : List Value) (Q : St → Hp → Prop), Inv X pins σ H s → Vals vs us → t vs σ H Q →
    wpAny (model X.prog X.w) X.A (assignInOrder ((assignEach ts X.env).map (·.2)) us) (fun _ s' => ∃ σ' H', Inv X pins σ' H' s' ∧ Q σ' H') X.xe s
/-- o[i] = v, by values -/
abbrev TSet := V → V → V → Hp → (Hp → Prop) → Prop
def PSet (X : Cx) (t : TSet) : Prop :=
  ∀ (pins : List (Addr × Obj)) (s : Shared) (σ : St) (H : Hp) (o i v : V) (ov iv u : Value) (Q : Hp → Prop), Inv X pins σ H s → RelV o ov → RelV i iv → RelV v u → t o i v H Q →
    wpAny (model X.prog X.w) X.A (setItem ov iv u) (fun _ s' => ∃ H', Inv X pins σ H' s' ∧ Q H') X.xe s
/-- a op= b, by values -/
abbrev TIp := V → V → Hp → VK → Prop
def PIp (X : Cx) (op : Operator) (t : TIp) : Prop :=
  ∀ (pins : List (Addr × Obj)) (s : Shared) (σ : St) (H : Hp) (x y : V) (v u : Value) (Q : VK), Inv X pins σ H s → RelV x v → RelV y u → t x y H Q →
    wpAny (model X.prog X.w) X.A (inplaceOp op v u) (EP X pins σ Q) X.xe s
section
variable {X : Cx} {pos : Pos}
def gName (i : Nat) : TG := fun v σ H Q => Q (σ.set i (some v)) H
theorem pg_name {i : Nat} {x : Str} (hN : X.N.Nodup) (hi : X.N[i]? = some x) (hx : Loc X.env.scope x) (hf : X.fn x = true ∨ X.env.scope.names.lookup x = some .local := by first | exact .inl rfl | exact .inr rfl | assumption) : PG X (.Name x pos) (gName i) := by
  intro pins s σ H v u Q I r h
  exact wpAny_assign_Name (store_ok I hN hi hx r (fun s' I' => ⟨_, H, I', h⟩) hf)
def gNil : TGs := fun vs σ H Q => vs = [] ∧ Q σ H
def gCons (t : TG) (u : TGs) : TGs := fun vs σ H Q => ∃ v r, vs = v :: r ∧ t v σ H fun σ' H' => u r σ' H' Q
theorem pgs_nil : PGs X [] gNil := by
  intro pins s σ H vs us Q I r h
  obtain ⟨e, h⟩ := h
  subst e
  cases r
  exact assignInOrder_nil ⟨σ, H, I, h⟩
theorem pgs_cons {e : Expr} {es : List Expr} {t : TG} {u : TGs} (h1 : PG X e t) (h2 : PGs X es u)
    (hs : (assignEach (e :: es) X.env).map (·.2) = assign e X.env :: (assignEach es X.env).map (·.2) := by rfl) : PGs X (e :: es) (gCons t u) := by
  intro pins s σ H vs us Q I r h
  obtain ⟨v, vr, e1, h⟩ := h
  subst e1
  cases r with
  | cons r rr =>
    rw [hs]
    refine assignInOrder_cons (thn (h1 pins s σ H _ _ _ I r h) fun _ s1 ⟨σ1, H1, I1, q1⟩ => ?_)
    exact h2 pins s1 σ1 H1 _ _ Q I1 rr q1
/-- (a, b, ..) = a tuple of that length -/
def gTup (K : PySem.W.Frag) (n : Nat) (t : TGs) : TG := fun v σ H Q => ∃ a xs, v = .ref a ∧ SqT K H a xs ∧ xs.length = n ∧ t xs σ H Q
theorem pg_tup {es : List Expr} {k : Nat} {t : TGs} {n : Nat} (hc : X.calm = true) (h : PGs X es t)
    (hn : (assignEach es X.env).length = n := by rfl) (hst : (assignEach es X.env).findIdx? (·.1) = none := by rfl) : PG X (.Tuple es k pos) (gTup X.K n t) := by
  intro pins s σ H v u Q I r hw
  obtain ⟨a, xs, e1, hq, hl, hw⟩ := hw
  subst e1
  cases r
  obtain ⟨its, rv, ht, hz⟩ := I.tuple hq
  refine assign_Tuple_tuple (I.ok.hd hc) ht (by simp [hn, ← hl, rv.length]) hst fun h' hx => ?_
  have I1 : Inv X pins σ H { s with heap := h' } := I.kept (t' := s.toks) fun b o e => hx b o (Nat.ne_of_lt (Heap.lt_size e)) e
  exact h pins _ σ H xs _ Q I1 (by simpa using rv) hw
/-- o[i] = .. -/
def gSub (to ti : TE) (t : TSet) : TG := fun v σ H Q => to σ H fun o H1 => ti σ H1 fun i H2 => t o i v H2 fun H3 => Q σ H3
theorem pg_sub {o i : Expr} {to ti : TE} {t : TSet} (ho : PE X o to) (hi : PE X i ti) (hs : PSet X t)
    (ha : ∀ v, assign (.Subscript o i pos) X.env v = (do
      let ov ← holding [v] (eval o X.env)
      let iv ← holding [v, ov] (eval i X.env)
      standAt pos
      holding [v, ov, iv] (setItem ov iv v)
      release [v, ov, iv] []) := by intro _; rfl) : PG X (.Subscript o i pos) (gSub to ti t) := by
  intro pins s σ H v u Q I r h
  rw [ha]
  refine wpAny_bind (wpAny_holding (thn (ho pins s σ H _ I h) fun ov s1 ⟨x, H1, I1, r1, q1⟩ => ?_))
  refine wpAny_bind (wpAny_holding (thn (hi pins s1 σ H1 _ I1 q1) fun iv s2 ⟨y, H2, I2, r2, q2⟩ => ?_))
  refine wpAny_bind (wpAny_standAt (wpAny_bind (wpAny_holding (thn (hs pins s2 σ H2 x y v ov iv u _ I2 r1 r2 r q2) fun _ s3 ⟨H3, I3, q3⟩ => ?_))))
  exact wpAny_release ⟨σ, H3, I3, q3⟩
/-- target = value -/
def tAsg (te : TE) (g : TG) : TS := fun D σ H => te σ H fun x H1 => g x σ H1 D.nx
theorem ps_asg {tg e : Expr} {te : TE} {g : TG} (he : PE X e te) (hg : PG X tg g) (hs : swapsWithSole [tg] e pos.line X.env = pure false := by rfl) (hw : swappedStores [tg] e X.env = pure none := by rfl)
    (h1 : (assignEach [tg] X.env).map (·.2) = [assign tg X.env] := by rfl) : PS X (.Assign [tg] e pos) (tAsg te g) := by
  intro pins s σ H D I h
  refine wpAny_Assign_stores (thn (he pins s σ H _ I h) fun v s1 ⟨x, H1, I1, r1, q1⟩ => ?_) hs hw
  rw [h1]
  exact thn (hg pins s1 σ H1 x v _ I1 r1 q1) fun _ s2 q => q
/-- name = value -/
theorem ps_set {i : Nat} {x : Str} {e : Expr} {te : TE} {pos' : Pos} (hN : X.N.Nodup) (hi : X.N[i]? = some x) (hx : Loc X.env.scope x) (he : PE X e te) (hs : swapsWith e (some (.Name x pos')) pos.line X.env = pure false := by rfl) (hf : X.fn x = true ∨ X.env.scope.names.lookup x = some .local := by first | exact .inl rfl | exact .inr rfl | assumption) :
    PS X (.Assign [.Name x pos'] e pos) (tAsg te (gName i)) := by
  intro pins s σ H D I h
  refine wpAny_Assign_Name (thn (he pins s σ H _ I h) fun v s1 ⟨y, H1, I1, r1, q1⟩ => ?_) hs
  exact store_ok I1 hN hi hx r1 (fun s2 I2 => ⟨_, H1, I2, q1⟩) hf
/-- a, b = x, y with plain local names: stored from the right; the pair itself is not tracked (the opening rows as in PyProof/Rows/TupAssign.lean:23) -/
def tPar (i j : Nat) (ta : TA) : TS := fun D σ H => ta σ H fun vs H1 => ∃ v w, vs = [v, w] ∧ D.nx ((σ.set i (some v)).set j (some w)) H1
theorem ps_par {i j : Nat} {x y : Str} {a b : Expr} {ta : TA} {px py pt : Pos} {kt k2 pt2} (hc : X.calm = true) (hN : X.N.Nodup) (hi : X.N[i]? = some x) (hj : X.N[j]? = some y) (hij : i ≠ j)
    (hx : X.env.scope.names.lookup x = some .local) (hy : X.env.scope.names.lookup y = some .local) (ha : PA X [a, b] ta)
    (hw : swappedStores [.Tuple [.Name x px, .Name y py] kt pt] (.Tuple [a, b] k2 pt2) X.env = pure (some [x, y]))
    (hs : swapsWithSole [.Tuple [.Name x px, .Name y py] kt pt] (.Tuple [a, b] k2 pt2) pos.line X.env = pure false := by rfl) :
    PS X (.Assign [.Tuple [.Name x px, .Name y py] kt pt] (.Tuple [a, b] k2 pt2) pos) (tPar i j ta) := by
  intro pins s σ H D I h
  rw [exec_Assign_arm]
  refine wpAny_bind (wpAny_standAt ?_)
  rw [hs]
  refine wpAny_bind (wpAny_pure ?_)
  rw [if_neg (by decide)]
  refine wpAny_bind (Tuple_ (thn (ha _ pins s σ H _ I h) fun us s1 ⟨vs, H1, I1, r1, q1⟩ => ?_))
  obtain ⟨v, w, e1, q1⟩ := q1
  subst e1
  obtain ⟨u1, u2, rfl, rv, rw'⟩ : ∃ u1 u2, us = [u1, u2] ∧ RelV v u1 ∧ RelV w u2 := by
    cases r1 with
    | cons p q =>
      cases q with
      | cons p' q' =>
        cases q'
        exact ⟨_, _, rfl, p, p'⟩
  refine wpAny_newObj_type ?_ (by show 2 ≤ sizeLine; decide)
  have I2 : Inv X pins σ H1 { s1 with heap := s1.heap.push { cls := .type "tuple", data := .seq [u1, u2].toArray } } := I1.kept (t' := s1.toks) fun b o e => Heap.get?_push_of_some _ e
  rw [hw]
  refine wpAny_bind (wpAny_pure ?_)
  show wpAny (model X.prog X.w) X.A (do rule "assign.swapped-stores"; let items ← unpackItems (.ref s1.heap.objs.size) 2 none; assignInOrder [fun v => bindName X.env y v, fun v => bindName X.env x v] items.reverse; pure Flow.next) _ _ _
  refine wpAny_bind (wpAny_rule (wpAny_bind (unpackItems_tuple (items := #[u1, u2]) (I.ok.hd hc) (IsTup.new s1.heap _) fun h' hx' => ?_)))
  have I3 := I2.kept (h' := h') (t' := s1.toks) fun b o e => hx' b o (Nat.ne_of_lt (Heap.lt_size e)) e
  show wpAny _ _ (assignInOrder [fun v => bindName X.env y v, fun v => bindName X.env x v] [u2, u1] >>= fun _ => pure Flow.next) _ _ _
  refine wpAny_bind (assignInOrder_cons (wpAny_bindName (store_ok I3 hN hj (.inl hy) rw' (fun s2 I4 => ?_) (.inr hy))))
  refine assignInOrder_cons (wpAny_bindName (store_ok I4 hN hi (.inl hx) rv (fun s3 I5 => assignInOrder_nil (wpAny_pure ?_)) (.inr hx)))
  rw [List.set_comm _ _ (Ne.symm hij)] at I5
  exact ⟨_, H1, I5, q1⟩
/-- name op= e -/
def tAug (i : Nat) (te : TE) (ti : TIp) : TS := fun D σ H => ∃ x, σ[i]? = some (some x) ∧ te σ H fun y H1 => ti x y H1 fun z H2 => D.nx (σ.set i (some z)) H2
theorem ps_aug {i : Nat} {x : Str} {e : Expr} {te : TE} {op : Operator} {ti : TIp} {pos' : Pos} (hN : X.N.Nodup) (hi : X.N[i]? = some x) (hx : Loc X.env.scope x) (he : PE X e te) (ho : PIp X op ti) (hf : X.fn x = true ∨ X.env.scope.names.lookup x = some .local := by first | exact .inl rfl | exact .inr rfl | assumption) :
    PS X (.AugAssign (.Name x pos') op e pos) (tAug i te ti) := by
  intro pins s σ H D I h
  obtain ⟨v, e1, h⟩ := h
  obtain ⟨m, hn, hl⟩ := I.loc
  have vis : Vis X.env.scope x := by rcases hx with k | k; exact .inl k; exact .inr (.inl k)
  obtain ⟨u, r, l⟩ := hl i x v hi e1 vis
  refine wpAny_AugAssign_Name ?_
  have go : wpAny (model X.prog X.w) X.A (eval e X.env) (fun w s₂ => wpAny (model X.prog X.w) X.A (inplaceOp op u w) (fun r s₃ => wpAny (model X.prog X.w) X.A (storeName X.env x r) (fun _ => SP X pins D .next) X.xe s₃) X.xe s₂) X.xe s := by
    refine thn (he pins s σ H _ I h) fun w s1 ⟨y, H1, I1, r1, q1⟩ => ?_
    refine thn (ho pins s1 σ H1 v y u w _ I1 r r1 q1) fun z s2 ⟨zv, H2, I2, r2, q2⟩ => ?_
    exact store_ok I2 hN hi hx r2 (fun s3 I3 => ⟨_, H2, I3, q2⟩) hf
  rcases l with ⟨hk, hm⟩ | ⟨hk, c, hc, hcell⟩
  · exact wpAny_loadName_local I.ok.kind hk hn hm go
  · rcases hk with hk | hk
    · exact wpAny_loadName_cell I.ok.kind hk hc hcell go
    · rcases hx with k | k
      · have : X.env.scope.names.lookup x = some .free := hk
        rw [k] at this; cases this
      · have : X.env.scope.names.lookup x = some .free := hk
        rw [k] at this; cases this
/-- o[i] op= e -/
def tAugS (to ti te : TE) (tget : V → V → Hp → VK → Prop) (tip : TIp) (tset : TSet) : TS := fun D σ H => to σ H fun o H1 => ti σ H1 fun i H2 => tget o i H2 fun x H3 => te σ H3 fun y H4 => tip x y H4 fun z H5 => tset o i z H5 fun H6 => D.nx σ H6
/-- o[i], by values -/
def PGet (X : Cx) (t : V → V → Hp → VK → Prop) : Prop :=
  ∀ (pins : List (Addr × Obj)) (s : Shared) (σ : St) (H : Hp) (o i : V) (ov iv : Value) (Q : VK), Inv X pins σ H s → RelV o ov → RelV i iv → t o i H Q →
    wpAny (model X.prog X.w) X.A (getItem ov iv) (EP X pins σ Q) X.xe s
theorem ps_augS {o i e : Expr} {to ti te : TE} {tget : V → V → Hp → VK → Prop} {tip : TIp} {tset : TSet} {op : Operator} {tpos : Pos} (ho : PE X o to) (hi : PE X i ti) (hg : PGet X tget) (he : PE X e te) (hp : PIp X op tip) (hs : PSet X tset)
    (ha : ∀ ov iv new, augStore i ov iv new = (do holding [new, ov, iv] (setItem ov iv new); release [new, ov, iv] []; pure .next) := by intros; rfl) : PS X (.AugAssign (.Subscript o i tpos) op e pos) (tAugS to ti te tget tip tset) := by
  intro pins s σ H D I h
  refine wpAny_AugAssign_SubscriptAny (thn (ho pins s σ H _ I h) fun ov s1 ⟨x1, H1, I1, r1, q1⟩ => ?_) ha
  refine thn (hi pins s1 σ H1 _ I1 q1) fun iv s2 ⟨x2, H2, I2, r2, q2⟩ => ?_
  refine thn (hg pins s2 σ H2 x1 x2 ov iv _ I2 r1 r2 q2) fun old s3 ⟨x3, H3, I3, r3, q3⟩ => ?_
  refine thn (he pins s3 σ H3 _ I3 q3) fun v s4 ⟨x4, H4, I4, r4, q4⟩ => ?_
  refine thn (hp pins s4 σ H4 x3 x4 old v _ I4 r3 r4 q4) fun new s5 ⟨x5, H5, I5, r5, q5⟩ => ?_
  exact thn (hs pins s5 σ H5 x1 x2 x5 ov iv new _ I5 r1 r2 r5 q5) fun _ s6 ⟨H6, I6, q6⟩ => ⟨σ, H6, I6, q6⟩
/-- ints -/
def ipI (f : Int → Int → Int) : TIp := fun x y H Q => ∃ i j, x = .int i ∧ y = .int j ∧ Q (.int (f i j)) H
theorem ip_add : PIp X .Add (ipI fun i j => i + j) := by
  intro pins s σ H x y v u Q I r1 r2 h
  obtain ⟨i, j, e1, e2, q⟩ := h
  subst e1; subst e2
  obtain ⟨t, rfl⟩ := r1
  obtain ⟨t', rfl⟩ := r2
  exact iadd_int ⟨.int _, H, I.tok _, ⟨_, rfl⟩, q⟩
theorem ip_sub : PIp X .Sub (ipI fun i j => i - j) := by
  intro pins s σ H x y v u Q I r1 r2 h
  obtain ⟨i, j, e1, e2, q⟩ := h
  subst e1; subst e2
  obtain ⟨t, rfl⟩ := r1
  obtain ⟨t', rfl⟩ := r2
  exact isub_int ⟨.int _, H, I.tok _, ⟨_, rfl⟩, q⟩
end

/-! ### while -/
section
variable {X : Cx} {pos : Pos}
/-- the invariant W with its measure -/
def tWhile (c : TT) (tb : TS) : TS := fun D σ H => ∃ W : Nat → St → Hp → Prop, (∃ m, W m σ H) ∧ ∀ m σ H, W m σ H →
  c σ H fun b H1 => if b = true then ∃ N : St → Hp → Prop, (∀ σ' H', N σ' H' → ∃ m', m' < m ∧ W m' σ' H') ∧ tb { D with nx := N, ct := N, bk := D.nx } σ H1 else D.nx σ H1
theorem ps_while {c : Expr} {body : List Stmt} {tc : TT} {tb : TS} (hp : PassesOwn (model X.prog X.w) X.A X.env X.xe) (hc : PT X c tc) (hb : PSs X body tb) : PS X (.While c body [] pos) (tWhile tc tb) := by
  intro pins s σ H D I h
  obtain ⟨W, ⟨m0, w0⟩, turn⟩ := h
  refine wpAny_While (codeAny_whileLoop (fun n s' => ∃ σ' H', Inv X pins σ' H' s' ∧ W n σ' H') ?_ m0 ⟨σ, H, I, w0⟩)
  rintro n s1 ⟨σ1, H1, I1, w1⟩
  refine wpAny_passesOwn hp (thn (hc pins s1 σ1 H1 _ I1 (turn n σ1 H1 w1)) fun b s2 ⟨H2, I2, q2⟩ => ?_)
  cases b with
  | true =>
    obtain ⟨N, hN, q2⟩ := q2
    rw [if_pos rfl]
    refine wpAny_passesOwn hp (thn (hb pins s2 σ1 H2 _ I2 q2) fun f s3 q3 => ?_)
    cases f with
    | next =>
      obtain ⟨σ3, H3, I3, n3⟩ := q3
      obtain ⟨m', hm, w3⟩ := hN σ3 H3 n3
      exact ⟨m', hm, σ3, H3, I3, w3⟩
    | cont =>
      obtain ⟨σ3, H3, I3, n3⟩ := q3
      obtain ⟨m', hm, w3⟩ := hN σ3 H3 n3
      exact ⟨m', hm, σ3, H3, I3, w3⟩
    | brk => exact q3
    | ret v => exact q3
  | false =>
    rw [if_neg Bool.false_ne_true]
    exact wpAny_execs_nil ⟨σ1, H2, I2, q2⟩
end

/-! ### what a loop or a comprehension walks -/
/-- at turn i: it yields x (the heap may grow), or it stops -/
structure It where
  go : Nat → Hp → Prop
  yld : Nat → Hp → V → Hp → Prop
  stop : Nat → Hp → Prop
/-- the iterator's own objects may turn: they are not the frame's, not pinned, younger than the entry (or a comprehension's own) -/
def FpOk (X : Cx) (pins : List (Addr × Obj)) (H : Hp) (b : Addr) : Prop :=
  H b = none ∧ b ≠ X.env.locals ∧ b ∉ X.fs ∧ (b ∈ X.ex ∨ X.s₀.heap.objs.size ≤ b) ∧ (∀ x c, X.env.cells.lookup x = some c → c ≠ b) ∧ ∀ p ∈ X.pn ++ pins, p.1 ≠ b
theorem Inv.fpOk {X : Cx} {pins : List (Addr × Obj)} {σ : St} {H H' : Hp} {s : Shared} {b : Addr} (I : Inv X pins σ H s) (hb : s.heap.objs.size ≤ b) (hn : H' b = none) : FpOk X pins H' b := by
  refine ⟨hn, Nat.ne_of_gt (Nat.lt_of_lt_of_le I.lt hb), I.nofs hb, .inr (Nat.le_trans I.sz hb), fun x c e z => ?_, fun p hp z => ?_⟩
  · obtain ⟨v, q⟩ := I.cell x c e
    exact absurd (Nat.lt_of_lt_of_le q.lt (by rw [z]; exact hb)) (Nat.lt_irrefl _)
  · exact absurd (Nat.lt_of_lt_of_le (Heap.lt_size (I.pin p hp).1) (by rw [z]; exact hb)) (Nat.lt_irrefl _)
structure Turn (P : Program) (w : World) (K : PySem.W.Frag) (tg : Expr) (J : It) (fp : List Addr) (it : Addr) (tn : Nat → Heap → Prop) : Prop where
  mem : it ∈ fp
  obj : ∀ i h, tn i h → ∀ b ∈ fp, ∃ o, h.get? b = some o ∧ ∀ v, o.data ≠ .cell v
  keep : ∀ i h h', tn i h → (∀ b ∈ fp, ∀ o, h.get? b = some o → h'.get? b = some o) → tn i h'
  item : ∀ (X : Cx), X.prog = P → X.w = w → X.K = K → X.calm = true → ∀ (i : Nat) (pins : List (Addr × Obj)) (s : Shared) (σ : St) (H : Hp) (E : Value → Shared → Prop), Inv X pins σ H s → (∀ b ∈ fp, FpOk X pins H b) → tn i s.heap → J.go i H →
    wpAny (model P w) X.A (pyNext (.ref it)) (fun r s1 => ∃ u, r = some u ∧
      wpAny (model P w) X.A (letOwnedTupleGo tg (.ref it) u) (fun _ s2 => ∃ x H', Inv X pins σ H' s2 ∧ RelV x u ∧ J.yld i H x H' ∧ tn (i + 1) s2.heap ∧ ∀ b ∈ fp, H' b = none) E s1) E s
  done : ∀ (X : Cx), X.prog = P → X.w = w → X.K = K → X.calm = true → ∀ (i : Nat) (pins : List (Addr × Obj)) (s : Shared) (σ : St) (H : Hp) (E : Value → Shared → Prop), Inv X pins σ H s → (∀ b ∈ fp, FpOk X pins H b) → tn i s.heap → J.stop i H →
    wpAny (model P w) X.A (pyNext (.ref it)) (fun r s1 => r = none ∧ Inv X pins σ H s1) E s
  self : ∀ (A : Around) (i : Nat) (s : Shared) (Q : Value → Shared → Prop) (E : Value → Shared → Prop), tn i s.heap → Q (.ref it) s → wpAny (model P w) A (pyIter (.ref it)) Q E s
abbrev TI := St → Hp → (It → Hp → Prop) → Prop
/-- an iterator has come -/
def PIE (X : Cx) (pins : List (Addr × Obj)) (σ : St) (tg : Expr) (R : It → Hp → Prop) (itv : Value) (s2 : Shared) : Prop :=
  ∃ (it : Addr) (fp : List Addr) (tn : Nat → Heap → Prop) (J : It) (H' : Hp), itv = .ref it ∧ Inv X pins σ H' s2 ∧ Turn X.prog X.w X.K tg J fp it tn ∧ tn 0 s2.heap ∧ (∀ b ∈ fp, FpOk X pins H' b) ∧ R J H'
def PI (X : Cx) (tg iter : Expr) (wi : TI) : Prop :=
  ∀ (pins : List (Addr × Obj)) (s : Shared) (σ : St) (H : Hp) (R : It → Hp → Prop), Inv X pins σ H s → wi σ H R →
    wpAny (model X.prog X.w) X.A (eval iter X.env) (fun v s1 => wpAny (model X.prog X.w) X.A (pyIter v) (PIE X pins σ tg R) X.xe s1) X.xe s

/-- the step ahead of the store is nothing for an iterator that keeps no tuple -/
theorem go_of {M : Model} {A : Around} {E : Value → Shared → Prop} {s : Shared} {tg : Expr} {it : Addr} {u : Value} {o : Obj} {n : String} {vs : Array Value} {Q : Unit → Shared → Prop} (ho : s.heap.get? it = some o) (hc : o.cls = .type n) (hd : o.data = .fields vs)
    (hn : ["enumerate", "zip", "dict_itemiterator", "dict_reverseitemiterator", "odict_iterator", "itertools.zip_longest", "itertools.pairwise"].contains n = false) (hQ : Q () s) : wpAny M A (letOwnedTupleGo tg (.ref it) u) Q E s := by
  unfold letOwnedTupleGo
  cases tg <;> first
    | exact wpAny_pure hQ
    | (cases u <;> first
        | exact wpAny_pure hQ
        | (refine wpAny_bind (wpAny_load ho ?_)
           rw [hc, hd]
           show wpAny M A (if (["enumerate", "zip", "dict_itemiterator", "dict_reverseitemiterator", "odict_iterator", "itertools.zip_longest", "itertools.pairwise"].contains n && vs[0]? == some (rawInt _)) = true then _ else _) Q E s
           rw [if_neg (by intro h; rw [hn, Bool.false_and] at h; cases h)]
           exact wpAny_pure hQ))

/-- the list at a, as it stands at each turn (a loop may append to it) -/
def Itl (K : PySem.W.Frag) (a : Addr) : It :=
  ⟨fun i H => ∃ xs x, SqL K H a xs ∧ xs[i]? = some x, fun i H x H' => H' = H ∧ ∀ xs, SqL K H a xs → xs[i]? = some x, fun i H => ∃ xs, SqL K H a xs ∧ xs.length ≤ i⟩
def Itt (K : PySem.W.Frag) (a : Addr) : It :=
  ⟨fun i H => ∃ xs x, SqT K H a xs ∧ xs[i]? = some x, fun i H x H' => H' = H ∧ ∀ xs, SqT K H a xs → xs[i]? = some x, fun i H => ∃ xs, SqT K H a xs ∧ xs.length ≤ i⟩
/-- lo, lo + 1, .. (n of them) -/
def Itr (lo : Int) (n : Nat) : It := ⟨fun i _ => i < n, fun i H x H' => H' = H ∧ x = .int (lo + i), fun i _ => n ≤ i⟩
theorem turn_list {P : Program} {w : World} {K : PySem.W.Frag} {tg : Expr} (a it : Addr) : Turn P w K tg (Itl K a) [it] it (fun i h => h.IsListIter it a i) where
  mem := by simp
  obj := fun i h st b hb => by
    have e : b = it := by simpa using hb
    subst e
    obtain ⟨o, e, c, d⟩ := st
    exact ⟨o, e, fun v z => by rw [d] at z; cases z⟩
  keep := fun i h h' st k => st.at fun o e => k it (by simp) o e
  item := by
    intro X hP hw hK hc i pins s σ H E I hf st hg
    subst hP hw hK
    obtain ⟨xs, x, hq, hx⟩ := hg
    obtain ⟨its, rv, p, hz⟩ := I.list hq
    obtain ⟨u, hu, ru⟩ := rv.get hx
    obtain ⟨f0, f1, f2, f3, f4, f5⟩ := hf it (by simp)
    refine wpAny_pyNext_list_item st p.isList (x := u) (by simpa using hu) fun h' st' sb => ?_
    have I1 : Inv X pins σ H { s with heap := h' } := I.turned (t' := s.toks) (fun b o hb e => (sb.2 b hb).trans e) f0 f1 f3 f4 f5
    obtain ⟨o, e, c, d⟩ := id st'
    exact ⟨u, rfl, go_of (s := { s with heap := h' }) e c d (by decide) ⟨x, H, I1, ru, ⟨rfl, fun ys hy => by rw [I.list_inj hy hq]; exact hx⟩, st', fun b hb => (hf b hb).1⟩⟩
  done := by
    intro X hP hw hK hc i pins s σ H E I hf st hg
    subst hP hw hK
    obtain ⟨xs, hq, hx⟩ := hg
    obtain ⟨its, rv, p, hz⟩ := I.list hq
    obtain ⟨f0, f1, f2, f3, f4, f5⟩ := hf it (by simp)
    have hl := rv.length
    exact wpAny_pyNext_list_end (I.ok.hd hc) st p.isList (by simp; omega) fun h' eb => ⟨rfl, I.turned (t' := s.toks) (fun b o hb e => eb b o hb e) f0 f1 f3 f4 f5⟩
  self := fun _ _ _ _ _ st h => wpAny_pyIter_listiter st h
theorem turn_tuple {P : Program} {w : World} {K : PySem.W.Frag} {tg : Expr} (a it : Addr) : Turn P w K tg (Itt K a) [it] it (fun i h => h.IsTupleIter it a i) where
  mem := by simp
  obj := fun i h st b hb => by
    have e : b = it := by simpa using hb
    subst e
    obtain ⟨o, e, c, d⟩ := st
    exact ⟨o, e, fun v z => by rw [d] at z; cases z⟩
  keep := fun i h h' st k => st.at fun o e => k it (by simp) o e
  item := by
    intro X hP hw hK hc i pins s σ H E I hf st hg
    subst hP hw hK
    obtain ⟨xs, x, hq, hx⟩ := hg
    obtain ⟨its, rv, p, hz⟩ := I.tuple hq
    obtain ⟨u, hu, ru⟩ := rv.get hx
    obtain ⟨f0, f1, f2, f3, f4, f5⟩ := hf it (by simp)
    refine wpAny_pyNext_tuple_item st (show s.heap.IsTuple a its.toArray from p) (x := u) (by simpa using hu) fun h' st' sb => ?_
    have I1 : Inv X pins σ H { s with heap := h' } := I.turned (t' := s.toks) (fun b o hb e => (sb.2 b hb).trans e) f0 f1 f3 f4 f5
    obtain ⟨o, e, c, d⟩ := id st'
    exact ⟨u, rfl, go_of (s := { s with heap := h' }) e c d (by decide) ⟨x, H, I1, ru, ⟨rfl, fun ys hy => by rw [I.tuple_inj hy hq]; exact hx⟩, st', fun b hb => (hf b hb).1⟩⟩
  done := by
    intro X hP hw hK hc i pins s σ H E I hf st hg
    subst hP hw hK
    obtain ⟨xs, hq, hx⟩ := hg
    obtain ⟨its, rv, p, hz⟩ := I.tuple hq
    obtain ⟨f0, f1, f2, f3, f4, f5⟩ := hf it (by simp)
    have hl := rv.length
    exact wpAny_pyNext_tuple_end (I.ok.hd hc) st (show s.heap.IsTuple a its.toArray from p) (by simp; omega) fun h' eb => ⟨rfl, I.turned (t' := s.toks) (fun b o hb e => eb b o hb e) f0 f1 f3 f4 f5⟩
  self := fun _ _ _ _ _ st h => wpAny_pyIter_tupleiter st h
theorem turn_range {P : Program} {w : World} {K : PySem.W.Frag} {tg : Expr} (it : Addr) (lo : Int) (n : Nat) : Turn P w K tg (Itr lo n) [it] it (fun i h => IsRangeIter h it (lo + (i : Nat) * 1) ((n : Int) - (i : Nat)) 1) where
  mem := by simp
  obj := fun i h st b hb => by
    have e : b = it := by simpa using hb
    subst e
    exact ⟨_, st, fun v z => by
      have z' : Data.fields _ = Data.cell v := z
      cases z'⟩
  keep := fun i h h' st k => k it (by simp) _ st
  item := by
    intro X hP hw hK hc i pins s σ H E I hf st hg
    subst hP hw hK
    obtain ⟨f0, f1, f2, f3, f4, f5⟩ := hf it (by simp)
    have W := Walks.range (prog := X.prog) (w := X.w) (I.ok.hd hc) it lo 1 n
    refine W.item i s _ _ hg st fun v h' tk hv st' kk => ?_
    obtain ⟨t, rfl⟩ := hv
    have I1 : Inv X pins σ H { s with heap := h', toks := tk } := I.turned (fun b o hb e => kk b o (by simpa using hb) e) f0 f1 f3 f4 f5
    refine ⟨_, rfl, go_of (s := { s with heap := h', toks := tk }) (n := "range_iterator") st' rfl rfl (by decide) ⟨.int (lo + i), H, I1, ⟨t, ?_⟩, ⟨rfl, rfl⟩, st', fun b hb => (hf b hb).1⟩⟩
    rw [Int.mul_one]
  done := by
    intro X hP hw hK hc i pins s σ H E I hf st hg
    subst hP hw hK
    obtain ⟨f0, f1, f2, f3, f4, f5⟩ := hf it (by simp)
    exact wpAny_pyNext_range_end (I.ok.hd hc) st (by have : n ≤ i := hg; omega) fun h' eb => ⟨rfl, I.turned (t' := s.toks) (fun b o hb e => eb b o hb e) f0 f1 f3 f4 f5⟩
  self := fun _ _ _ _ _ st h => wpAny_pyIter_rangeiter st h
end L2

namespace L2
open PySem PySem.Spec PyProof.Rows
section
variable {X : Cx} {tg : Expr}
def iList (K : PySem.W.Frag) (tl : TE) : TI := fun σ H R => tl σ H fun x H1 => ∃ a, x = .ref a ∧ (∃ xs, SqL K H1 a xs) ∧ R (Itl K a) H1
def iTup (K : PySem.W.Frag) (tl : TE) : TI := fun σ H R => tl σ H fun x H1 => ∃ a, x = .ref a ∧ (∃ xs, SqT K H1 a xs) ∧ R (Itt K a) H1
theorem pi_list {l : Expr} {tl : TE} (hl : PE X l tl) : PI X tg l (iList X.K tl) := by
  intro pins s σ H R I h
  refine thn (hl pins s σ H _ I h) fun v s1 ⟨x, H1, I1, r1, q1⟩ => ?_
  obtain ⟨a, e, ⟨xs, hq⟩, q⟩ := q1
  subst e
  cases r1
  obtain ⟨its, rv, p, hz⟩ := I1.list hq
  refine wpAny_pyIter_list p.isList ?_
  refine ⟨s1.heap.objs.size, [s1.heap.objs.size], _, _, H1, rfl, I1.kept (t' := s1.toks) fun b o e => Heap.get?_push_of_some _ e, turn_list a _, ⟨_, Heap.get?_push_size _ rfl, rfl, rfl⟩, fun b hb => ?_, q⟩
  have e : b = s1.heap.objs.size := by simpa using hb
  subst e
  exact I1.fpOk (Nat.le_refl _) (I1.hok.fresh (Nat.le_refl _))
theorem pi_tup {l : Expr} {tl : TE} (hl : PE X l tl) : PI X tg l (iTup X.K tl) := by
  intro pins s σ H R I h
  refine thn (hl pins s σ H _ I h) fun v s1 ⟨x, H1, I1, r1, q1⟩ => ?_
  obtain ⟨a, e, ⟨xs, hq⟩, q⟩ := q1
  subst e
  cases r1
  obtain ⟨its, rv, p, hz⟩ := I1.tuple hq
  refine wpAny_pyIter_tuple (show s1.heap.IsTuple a its.toArray from p) ?_
  refine ⟨s1.heap.objs.size, [s1.heap.objs.size], _, _, H1, rfl, I1.kept (t' := s1.toks) fun b o e => Heap.get?_push_of_some _ e, turn_tuple a _, ⟨_, Heap.get?_push_size _ rfl, rfl, rfl⟩, fun b hb => ?_, q⟩
  have e : b = s1.heap.objs.size := by simpa using hb
  subst e
  exact I1.fpOk (Nat.le_refl _) (I1.hok.fresh (Nat.le_refl _))
/-- a range object just made, walked -/
theorem range_it {pins : List (Addr × Obj)} {σ : St} {H : Hp} {s : Shared} {R : It → Hp → Prop} {E : Value → Shared → Prop} {lo hi : Int} {t u v : Tok} {tk : Nat} (I : Inv X pins σ H s) (h1 : -(2 ^ 62) ≤ lo) (h2 : lo < 2 ^ 62) (h3 : -(2 ^ 62) ≤ hi) (h4 : hi < 2 ^ 62)
    (q : R (Itr lo (hi - lo).toNat) H) : wpAny (model X.prog X.w) X.A (pyIter (.ref s.heap.objs.size)) (PIE X pins σ tg R) E { s with heap := s.heap.push { cls := .type "range", data := .fields #[.int lo t, .int hi u, .int 1 v] }, toks := tk } := by
  refine wpAny_pyIter_range (IsRange.new ..) (small_one h1 h2 h3 h4) ?_
  have I1 : Inv X pins σ H { s with heap := s.heap.push { cls := .type "range", data := .fields #[.int lo t, .int hi u, .int 1 v] }, toks := tk } := I.kept fun b o e => Heap.get?_push_of_some _ e
  refine ⟨(s.heap.push { cls := .type "range", data := .fields #[.int lo t, .int hi u, .int 1 v] }).objs.size, [(s.heap.push { cls := .type "range", data := .fields #[.int lo t, .int hi u, .int 1 v] }).objs.size], _, _, H, rfl,
    I1.kept (t' := tk) fun b o e => Heap.get?_push_of_some _ e, turn_range _ lo (hi - lo).toNat, ?_, fun b hb => ?_, q⟩
  · have e1 : lo + ((0 : Nat) : Int) * 1 = lo := by simp
    have e2 : (((hi - lo).toNat : Nat) : Int) - ((0 : Nat) : Int) = Builtin.Range.rangeSize lo hi 1 := by rw [rangeSize_one]; split <;> omega
    show IsRangeIter _ _ (lo + ((0 : Nat) : Int) * 1) ((((hi - lo).toNat : Nat) : Int) - ((0 : Nat) : Int)) 1
    rw [e1, e2]
    exact Heap.get?_push_size _ rfl
  · have e : b = (s.heap.push { cls := .type "range", data := .fields #[.int lo t, .int hi u, .int 1 v] }).objs.size := by simpa using hb
    subst e
    exact I1.fpOk (Nat.le_refl _) (I1.hok.fresh (Nat.le_refl _))
def iRng1 (ta : TA) : TI := fun σ H R => ta σ H fun vs H1 => ∃ j : Int, vs = [.int j] ∧ -(2 ^ 62) ≤ j ∧ j < 2 ^ 62 ∧ R (Itr 0 j.toNat) H1
def iRng2 (ta : TA) : TI := fun σ H R => ta σ H fun vs H1 => ∃ i j : Int, vs = [.int i, .int j] ∧ (-(2 ^ 62) ≤ i ∧ i < 2 ^ 62 ∧ -(2 ^ 62) ≤ j ∧ j < 2 ^ 62) ∧ R (Itr i (j - i).toNat) H1
theorem pi_range1 {a : Expr} {ta : TA} {p pos : Pos} (hg : Gl X "range") (hm : X.mg "range" = none) (ha : PA X [a] ta) (hs : starEach [a] X.env = [(false, eval a X.env)] := by rfl) : PI X tg (.Call (.Name "range" p) [a] [] pos) (iRng1 ta) := by
  intro pins s σ H R I h
  refine Call_ (ld_blt I hg hm boot_range (PyProof.Rows.callWith_type1 (thn (ha pos pins s σ H _ I h) fun us s1 ⟨vs, H1, I1, r1, q1⟩ => ?_) hs rfl))
  obtain ⟨j, e, q1, q2, q⟩ := q1
  subst e
  cases r1 with
  | cons r rr =>
    cases rr
    obtain ⟨t, rfl⟩ := r
    exact call_range_1 (range_it I1 (by omega) (by omega) q1 q2 (by simpa using q))
theorem pi_range2 {a b : Expr} {ta : TA} {p pos : Pos} (hg : Gl X "range") (hm : X.mg "range" = none) (ha : PA X [a, b] ta) (hs : starEach [a, b] X.env = [(false, eval a X.env), (false, eval b X.env)] := by rfl) (hs2 : starEach [b] X.env = [(false, eval b X.env)] := by rfl) :
    PI X tg (.Call (.Name "range" p) [a, b] [] pos) (iRng2 ta) := by
  intro pins s σ H R I h
  refine Call_ (ld_blt I hg hm boot_range (PyProof.Rows.callWith_type1 (thn (ha pos pins s σ H _ I h) fun us s1 ⟨vs, H1, I1, r1, q1⟩ => ?_) (by rw [hs, hs2]) (by rw [hs2]; rfl)))
  obtain ⟨i, j, e, ⟨q1, q2, q3, q4⟩, q⟩ := q1
  subst e
  cases r1 with
  | cons r rr =>
    cases rr with
    | cons r' rr =>
      cases rr
      obtain ⟨t, rfl⟩ := r
      obtain ⟨t', rfl⟩ := r'
      exact call_range_2 (range_it I1 q1 q2 q3 q4 q)

/-! ### for -/
/-- W: the invariant by the turn and a measure; N: what the body is to reach -/
def tFor (wi : TI) (g : TG) (tb : TS) : TS := fun D σ H => wi σ H fun J H1 => ∃ W : Nat → Nat → St → Hp → Prop, (∃ m, W 0 m σ H1) ∧ ∀ i m σ H, W i m σ H →
  (J.stop i H ∧ D.nx σ H) ∨ (J.go i H ∧ ∃ N : St → Hp → Prop, (∀ σ' H', N σ' H' → ∃ m', m' < m ∧ W (i + 1) m' σ' H') ∧ ∀ x H', J.yld i H x H' → g x σ H' fun σ2 H2 => tb { D with nx := N, ct := N, bk := D.nx } σ2 H2)
/-- the records at fp as they stand -/
def pinsAt (fp : List Addr) (h : Heap) : List (Addr × Obj) := fp.filterMap fun b => (h.get? b).map fun o => (b, o)
theorem mem_pinsAt {fp : List Addr} {h : Heap} {b : Addr} {o : Obj} (hb : b ∈ fp) (e : h.get? b = some o) : (b, o) ∈ pinsAt fp h := List.mem_filterMap.mpr ⟨b, hb, by rw [e]; rfl⟩
theorem of_pinsAt {fp : List Addr} {h : Heap} {p : Addr × Obj} (hp : p ∈ pinsAt fp h) : p.1 ∈ fp ∧ h.get? p.1 = some p.2 := by
  obtain ⟨b, hb, e⟩ := List.mem_filterMap.mp hp
  cases q : h.get? b with
  | none => rw [q] at e; cases e
  | some o =>
    rw [q] at e
    have e' : (b, o) = p := Option.some.inj e
    subst e'
    exact ⟨hb, q⟩
theorem Inv.pinned {pins : List (Addr × Obj)} {σ : St} {H : Hp} {s : Shared} {fp : List Addr} (I : Inv X pins σ H s) (hf : ∀ b ∈ fp, FpOk X pins H b) (ho : ∀ b ∈ fp, ∃ o, s.heap.get? b = some o ∧ ∀ v, o.data ≠ .cell v) : Inv X (pins ++ pinsAt fp s.heap) σ H s :=
  I.pins_of fun p hp => (List.mem_append.mp hp).elim (fun z => I.pin p (List.mem_append_right _ z)) fun z => by
    obtain ⟨hb, e⟩ := of_pinsAt z
    obtain ⟨f0, f1, f2, _⟩ := hf p.1 hb
    obtain ⟨o, e', d⟩ := ho p.1 hb
    rw [e] at e'; cases e'
    exact ⟨e, f0, f1, f2, d⟩
theorem Inv.unpinned {pins pl : List (Addr × Obj)} {σ : St} {H : Hp} {s : Shared} (I : Inv X (pins ++ pl) σ H s) : Inv X pins σ H s := I.pins_of fun p hp => I.pin p (List.mem_append_right _ (List.mem_append_left _ hp))
theorem ps_for {iter : Expr} {body : List Stmt} {wi : TI} {g : TG} {tb : TS} {pos : Pos} (hp : PassesOwn (model X.prog X.w) X.A X.env X.xe) (hc : X.calm = true) (hi : PI X tg iter wi) (hg : PG X tg g) (hb : PSs X body tb)
    (hs : ∀ x, foldedSetIterable iter X.env x = pure x := by intro _; rfl) : PS X (.For tg iter body [] pos) (tFor wi g tb) := by
  intro pins s σ H D I h
  refine wpAny_For (thn (hi pins s σ H _ I h) fun v s1 h1 => thn h1 fun itv s2 h2 => ?_) hs
  obtain ⟨it, fp, tn, J, H2, e, I2, T, st2, f2, W, ⟨m0, w0⟩, turn⟩ := h2
  subst e
  -- what stays true of the iterator's objects through the loop
  have stat : ∀ {H' : Hp}, (∀ b ∈ fp, H' b = none) → ∀ b ∈ fp, FpOk X pins H' b := fun hn b hb => ⟨hn b hb, (f2 b hb).2⟩
  refine codeAny_forLoop_any (fun n s' => ∃ i σ' H', Inv X pins σ' H' s' ∧ tn i s'.heap ∧ (∀ b ∈ fp, H' b = none) ∧ W i n σ' H') ?_ m0 ⟨0, σ, H2, I2, st2, fun b hb => (f2 b hb).1, w0⟩
  rintro n s3 ⟨i, σ3, H3, I3, st3, fr3, w3⟩
  rcases turn i n σ3 H3 w3 with ⟨stop, qn⟩ | ⟨go, N, hN, step⟩
  · refine wpAny_passesOwn hp (thn (T.done X rfl rfl rfl hc i pins s3 σ3 H3 X.xe I3 (stat fr3) st3 stop) fun r s4 ⟨hr, I4⟩ => ?_)
    subst hr
    exact wpAny_execs_nil ⟨σ3, H3, I4, qn⟩
  · refine wpAny_passesOwn hp (thn (T.item X rfl rfl rfl hc i pins s3 σ3 H3 X.xe I3 (stat fr3) st3 go) fun r s4 ⟨u, hr, h4⟩ => ?_)
    subst hr
    refine wpAny_passesOwn hp (thn h4 fun _ s5 ⟨x, H5, I5, r5, y5, st5, fr5⟩ => ?_)
    have I5' := I5.pinned (stat fr5) (T.obj _ _ st5)
    refine wpAny_passesOwn hp (thn (hg _ s5 σ3 H5 x u _ I5' r5 (step x H5 y5)) fun _ s6 ⟨σ6, H6, I6, q6⟩ => ?_)
    refine wpAny_passesOwn hp (thn (hb _ s6 σ6 H6 _ I6 q6) fun f s7 q7 => ?_)
    have again : ∀ {σ7 : St} {H7 : Hp}, Inv X (pins ++ pinsAt fp s5.heap) σ7 H7 s7 → N σ7 H7 → ∃ m, m < n ∧ ∃ i σ' H', Inv X pins σ' H' s7 ∧ tn i s7.heap ∧ (∀ b ∈ fp, H' b = none) ∧ W i m σ' H' := fun {σ7 H7} I7 n7 => by
      obtain ⟨m', hm, w7⟩ := hN σ7 H7 n7
      refine ⟨m', hm, i + 1, σ7, H7, I7.unpinned, T.keep _ _ _ st5 fun b hb o e => (I7.pin (b, o) (List.mem_append_right _ (List.mem_append_right _ (mem_pinsAt hb e)))).1, fun b hb => ?_, w7⟩
      obtain ⟨o, e, d⟩ := T.obj _ _ st5 b hb
      exact (I7.pin (b, o) (List.mem_append_right _ (List.mem_append_right _ (mem_pinsAt hb e)))).2.1
    cases f with
    | next => obtain ⟨σ7, H7, I7, n7⟩ := q7; exact again I7 n7
    | cont => obtain ⟨σ7, H7, I7, n7⟩ := q7; exact again I7 n7
    | brk => obtain ⟨σ7, H7, I7, q7⟩ := q7; exact ⟨σ7, H7, I7.unpinned, q7⟩
    | ret v => obtain ⟨x7, σ7, H7, I7, r7, q7⟩ := q7; exact ⟨x7, σ7, H7, I7.unpinned, r7, q7⟩
end

/-! ### the forms one uses -/
/-- over a list that the body leaves as it is -/
theorem for_list {K : PySem.W.Frag} {a : Addr} {xs : List V} {g : TG} {tb : TS} {D : Ends} {σ : St} {H : Hp} (Pv : Nat → St → Hp → Prop) (h0 : Pv 0 σ H) (hl : ∀ i σ H, i ≤ xs.length → Pv i σ H → SqL K H a xs)
    (hs : ∀ i x σ H, xs[i]? = some x → Pv i σ H → g x σ H fun σ2 H2 => tb { D with nx := Pv (i + 1), ct := Pv (i + 1), bk := D.nx } σ2 H2) (hd : ∀ σ H, Pv xs.length σ H → D.nx σ H) :
    ∃ W : Nat → Nat → St → Hp → Prop, (∃ m, W 0 m σ H) ∧ ∀ i m σ H, W i m σ H →
      ((Itl K a).stop i H ∧ D.nx σ H) ∨ ((Itl K a).go i H ∧ ∃ N : St → Hp → Prop, (∀ σ' H', N σ' H' → ∃ m', m' < m ∧ W (i + 1) m' σ' H') ∧ ∀ x H', (Itl K a).yld i H x H' → g x σ H' fun σ2 H2 => tb { D with nx := N, ct := N, bk := D.nx } σ2 H2) := by
  refine ⟨fun i m σ H => m = xs.length - i ∧ i ≤ xs.length ∧ Pv i σ H, ⟨xs.length, by simp, Nat.zero_le _, h0⟩, ?_⟩
  rintro i m σ H ⟨rfl, hi, p⟩
  have q := hl i σ H hi p
  by_cases hlt : i < xs.length
  · refine .inr ⟨⟨xs, xs[i], q, by simp [hlt]⟩, Pv (i + 1), fun σ' H' p' => ⟨xs.length - (i + 1), by omega, rfl, hlt, p'⟩, fun x H' y => ?_⟩
    obtain ⟨e, y⟩ := y
    subst e
    exact hs i x σ _ (y xs q) p
  · have e : i = xs.length := by omega
    subst e
    exact .inl ⟨⟨xs, q, Nat.le_refl _⟩, hd σ H p⟩
theorem for_tup {K : PySem.W.Frag} {a : Addr} {xs : List V} {g : TG} {tb : TS} {D : Ends} {σ : St} {H : Hp} (Pv : Nat → St → Hp → Prop) (h0 : Pv 0 σ H) (hl : ∀ i σ H, i ≤ xs.length → Pv i σ H → SqT K H a xs)
    (hs : ∀ i x σ H, xs[i]? = some x → Pv i σ H → g x σ H fun σ2 H2 => tb { D with nx := Pv (i + 1), ct := Pv (i + 1), bk := D.nx } σ2 H2) (hd : ∀ σ H, Pv xs.length σ H → D.nx σ H) :
    ∃ W : Nat → Nat → St → Hp → Prop, (∃ m, W 0 m σ H) ∧ ∀ i m σ H, W i m σ H →
      ((Itt K a).stop i H ∧ D.nx σ H) ∨ ((Itt K a).go i H ∧ ∃ N : St → Hp → Prop, (∀ σ' H', N σ' H' → ∃ m', m' < m ∧ W (i + 1) m' σ' H') ∧ ∀ x H', (Itt K a).yld i H x H' → g x σ H' fun σ2 H2 => tb { D with nx := N, ct := N, bk := D.nx } σ2 H2) := by
  refine ⟨fun i m σ H => m = xs.length - i ∧ i ≤ xs.length ∧ Pv i σ H, ⟨xs.length, by simp, Nat.zero_le _, h0⟩, ?_⟩
  rintro i m σ H ⟨rfl, hi, p⟩
  have q := hl i σ H hi p
  by_cases hlt : i < xs.length
  · refine .inr ⟨⟨xs, xs[i], q, by simp [hlt]⟩, Pv (i + 1), fun σ' H' p' => ⟨xs.length - (i + 1), by omega, rfl, hlt, p'⟩, fun x H' y => ?_⟩
    obtain ⟨e, y⟩ := y
    subst e
    exact hs i x σ _ (y xs q) p
  · have e : i = xs.length := by omega
    subst e
    exact .inl ⟨⟨xs, q, Nat.le_refl _⟩, hd σ H p⟩
theorem for_range {lo : Int} {n : Nat} {g : TG} {tb : TS} {D : Ends} {σ : St} {H : Hp} (Pv : Nat → St → Hp → Prop) (h0 : Pv 0 σ H)
    (hs : ∀ i σ H, i < n → Pv i σ H → g (.int (lo + i)) σ H fun σ2 H2 => tb { D with nx := Pv (i + 1), ct := Pv (i + 1), bk := D.nx } σ2 H2) (hd : ∀ σ H, Pv n σ H → D.nx σ H) :
    ∃ W : Nat → Nat → St → Hp → Prop, (∃ m, W 0 m σ H) ∧ ∀ i m σ H, W i m σ H →
      ((Itr lo n).stop i H ∧ D.nx σ H) ∨ ((Itr lo n).go i H ∧ ∃ N : St → Hp → Prop, (∀ σ' H', N σ' H' → ∃ m', m' < m ∧ W (i + 1) m' σ' H') ∧ ∀ x H', (Itr lo n).yld i H x H' → g x σ H' fun σ2 H2 => tb { D with nx := N, ct := N, bk := D.nx } σ2 H2) := by
  refine ⟨fun i m σ H => m = n - i ∧ i ≤ n ∧ Pv i σ H, ⟨n, by simp, Nat.zero_le _, h0⟩, ?_⟩
  rintro i m σ H ⟨rfl, hi, p⟩
  by_cases hlt : i < n
  · refine .inr ⟨hlt, Pv (i + 1), fun σ' H' p' => ⟨n - (i + 1), by omega, rfl, hlt, p'⟩, fun x H' y => ?_⟩
    obtain ⟨e, y⟩ := y
    subst e y
    exact hs i σ _ hlt p
  · have e : i = n := by omega
    subst e
    exact .inl ⟨Nat.le_refl _, hd σ H p⟩
/-- while, by a word and a measure of the state -/
theorem while_by {c : TT} {tb : TS} {D : Ends} {σ : St} {H : Hp} (Pv : St → Hp → Prop) (μ : St → Hp → Nat) (h0 : Pv σ H)
    (hs : ∀ σ H, Pv σ H → c σ H fun b H1 => if b = true then tb { D with nx := fun σ' H' => Pv σ' H' ∧ μ σ' H' < μ σ H, ct := fun σ' H' => Pv σ' H' ∧ μ σ' H' < μ σ H, bk := D.nx } σ H1 else D.nx σ H1)
    (mono : ∀ σ H Q Q', (∀ b H1, Q b H1 → Q' b H1) → c σ H Q → c σ H Q') : tWhile c tb D σ H := by
  refine ⟨fun m σ H => m = μ σ H ∧ Pv σ H, ⟨_, rfl, h0⟩, ?_⟩
  rintro m σ H ⟨rfl, p⟩
  refine mono σ H _ _ (fun b H1 q => ?_) (hs σ H p)
  cases b with
  | true => exact ⟨_, fun σ' H' ⟨p', l⟩ => ⟨_, l, rfl, p'⟩, q⟩
  | false => exact q
end L2

namespace L2
open PySem PySem.Spec PyProof.Rows

abbrev R2 := V → V → Hp → VK → Prop
/-- a two-place operation on values: f is binaryOp op, inplaceOp op or compareOp op -/
def OpR (X : Cx) (f : Value → Value → Sem Value) (r : R2) : Prop :=
  ∀ (pins : List (Addr × Obj)) (s : Shared) (σ : St) (H : Hp) (x y : V) (v u : Value) (Q : VK), Inv X pins σ H s → RelV x v → RelV y u → r x y H Q →
    wpAny (model X.prog X.w) X.A (f v u) (EP X pins σ Q) X.xe s
/-- a one-place operation -/
def UnR (X : Cx) (f : Value → Sem Value) (r : V → Hp → VK → Prop) : Prop :=
  ∀ (pins : List (Addr × Obj)) (s : Shared) (σ : St) (H : Hp) (x : V) (v : Value) (Q : VK), Inv X pins σ H s → RelV x v → r x H Q →
    wpAny (model X.prog X.w) X.A (f v) (EP X pins σ Q) X.xe s
/-- a call of a value that is known (a builtin, a type) with values -/
def CallR (X : Cx) (f : Value) (r : List V → Hp → VK → Prop) : Prop :=
  ∀ (pins : List (Addr × Obj)) (s : Shared) (σ : St) (H : Hp) (xs : List V) (us : List Value) (Q : VK), Inv X pins σ H s → Vals xs us → r xs H Q →
    wpAny (model X.prog X.w) X.A (call f us) (EP X pins σ Q) X.xe s
/-- a value's truth -/
def TruR (X : Cx) (r : V → Hp → (Bool → Hp → Prop) → Prop) : Prop :=
  ∀ (pins : List (Addr × Obj)) (s : Shared) (σ : St) (H : Hp) (x : V) (v : Value) (Q : Bool → Hp → Prop), Inv X pins σ H s → RelV x v → r x H Q →
    wpAny (model X.prog X.w) X.A (truthy v) (TP X pins σ Q) X.xe s

def tOp (r : R2) (ta tb : TE) : TE := fun σ H Q => ta σ H fun x H1 => tb σ H1 fun y H2 => r x y H2 Q
def tUn (r : V → Hp → VK → Prop) (ta : TE) : TE := fun σ H Q => ta σ H fun x H1 => r x H1 Q
/-- ints in, under C, and a value out -/
def rI (C : Int → Int → Prop) (g : Int → Int → V) : R2 := fun x y H Q => ∃ i j, x = .int i ∧ y = .int j ∧ C i j ∧ Q (g i j) H
def rI0 (g : Int → Int → V) : R2 := fun x y H Q => ∃ i j, x = .int i ∧ y = .int j ∧ Q (g i j) H
def rU (g : Int → V) : V → Hp → VK → Prop := fun x H Q => ∃ i, x = .int i ∧ Q (g i) H

section
variable {X : Cx} {a b c : Expr} {ta tb tc : TE} {pos : Pos}

theorem binT (ha : PE X a ta) (hb : PE X b tb) {pins : List (Addr × Obj)} {s : Shared} {σ : St} {H : Hp} {R : V → V → Hp → Prop} (I : Inv X pins σ H s)
    (h : ta σ H fun x H1 => tb σ H1 fun y H2 => R x y H2) {Q : Value → Shared → Prop} {f : Value → Value → Sem Value}
    (hf : ∀ v u s2 x y H2, Inv X pins σ H2 s2 → RelV x v → RelV y u → R x y H2 → wpAny (model X.prog X.w) X.A (f v u) Q X.xe s2) :
    wpAny (model X.prog X.w) X.A (eval a X.env) (fun v s₁ => wpAny (model X.prog X.w) X.A (eval b X.env) (fun u s₂ => wpAny (model X.prog X.w) X.A (f v u) Q X.xe s₂) X.xe s₁) X.xe s := by
  refine thn (ha pins s σ H _ I h) fun v s1 ⟨x, H1, I1, r1, q1⟩ => ?_
  refine thn (hb pins s1 σ H1 _ I1 q1) fun u s2 ⟨y, H2, I2, r2, q2⟩ => ?_
  exact hf v u s2 x y H2 I2 r1 r2 q2

theorem pe_op {op : Operator} {r : R2} (ho : OpR X (binaryOp op) r) (ha : PE X a ta) (hb : PE X b tb) : PE X (.BinOp a op b pos) (tOp r ta tb) := by
  intro pins s σ H Q I h
  exact wpAny_BinOp (binT ha hb I h fun v u s2 x y H2 I2 rx ry q => ho pins s2 σ H2 x y v u Q I2 rx ry q)
theorem pe_un {op : UnaryOp} {r : V → Hp → VK → Prop} (ho : UnR X (unaryOp op) r) (ha : PE X a ta) : PE X (.UnaryOp op a pos) (tUn r ta) := by
  intro pins s σ H Q I h
  exact UnaryOp_ (thn (ha pins s σ H _ I h) fun v s1 ⟨x, H1, I1, r1, q1⟩ => ho pins s1 σ H1 x v Q I1 r1 q1)
/-- a op= e at a name: the name's slot i -/
theorem augR {op : Operator} {r : R2} (ho : OpR X (inplaceOp op) r) {pins : List (Addr × Obj)} {s : Shared} {σ : St} {H : Hp} {x y : V} {v u : Value} {Q : VK} (I : Inv X pins σ H s)
    (rx : RelV x v) (ry : RelV y u) (q : r x y H Q) : wpAny (model X.prog X.w) X.A (inplaceOp op v u) (EP X pins σ Q) X.xe s := ho pins s σ H x y v u Q I rx ry q

/-! ### ints -/
theorem opI {f : Value → Value → Sem Value} {C : Int → Int → Prop} {g : Int → Int → Int}
    (rule : ∀ (i j : Int) (t u : Tok) (s : Shared) (Q : Value → Shared → Prop) (E : Value → Shared → Prop), C i j → Q (.int (g i j) s.toks) { s with toks := s.toks + 1 } → wpAny (model X.prog X.w) X.A (f (.int i t) (.int j u)) Q E s) :
    OpR X f (rI C fun i j => .int (g i j)) := by
  intro pins s σ H x y v u Q I rx ry h
  obtain ⟨i, j, rfl, rfl, hc, q⟩ := h
  obtain ⟨t, rfl⟩ := rx
  obtain ⟨t', rfl⟩ := ry
  exact rule i j t t' s _ _ hc ⟨.int (g i j), H, I.tok _, ⟨_, rfl⟩, q⟩
theorem opI0 {f : Value → Value → Sem Value} {g : Int → Int → Int}
    (rule : ∀ (i j : Int) (t u : Tok) (s : Shared) (Q : Value → Shared → Prop) (E : Value → Shared → Prop), Q (.int (g i j) s.toks) { s with toks := s.toks + 1 } → wpAny (model X.prog X.w) X.A (f (.int i t) (.int j u)) Q E s) :
    OpR X f (rI0 fun i j => .int (g i j)) := by
  intro pins s σ H x y v u Q I rx ry h
  obtain ⟨i, j, rfl, rfl, q⟩ := h
  obtain ⟨t, rfl⟩ := rx
  obtain ⟨t', rfl⟩ := ry
  exact rule i j t t' s _ _ ⟨.int (g i j), H, I.tok _, ⟨_, rfl⟩, q⟩
theorem opB0 {f : Value → Value → Sem Value} {g : Int → Int → Bool}
    (rule : ∀ (i j : Int) (t u : Tok) (s : Shared) (Q : Value → Shared → Prop) (E : Value → Shared → Prop), Q (.bool (g i j)) s → wpAny (model X.prog X.w) X.A (f (.int i t) (.int j u)) Q E s) :
    OpR X f (rI0 fun i j => .bl (g i j)) := by
  intro pins s σ H x y v u Q I rx ry h
  obtain ⟨i, j, rfl, rfl, q⟩ := h
  obtain ⟨t, rfl⟩ := rx
  obtain ⟨t', rfl⟩ := ry
  exact rule i j t t' s _ _ ⟨.bl (g i j), H, I, rfl, q⟩

def CDiv (i j : Int) : Prop := 0 < j ∧ j < 1073741824
def CDivN (i j : Int) : Prop := j ≠ 0 ∧ j.natAbs < 1073741824
def CPow (i j : Int) : Prop := 0 ≤ j ∧ j ≤ 1000000 ∧ i.natAbs < 2 ^ 64
def CMul (i j : Int) : Prop := (-(2 ^ 64) < i ∧ i < 2 ^ 64) ∨ (-(2 ^ 64) < j ∧ j < 2 ^ 64)
theorem CMul.ok {i j : Int} (h : CMul i j) : IntMulOk i j := by
  rcases h with ⟨h1, h2⟩ | ⟨h1, h2⟩
  · exact .of_left (intBits_le_64 h1 h2)
  · exact .of_right (intBits_le_64 h1 h2)
theorem two_pow_nn (k : Nat) : (0 : Int) ≤ 2 ^ k := by
  rw [two_pow_cast]
  exact Int.natCast_nonneg _

theorem op_add : OpR X (binaryOp .Add) (rI0 fun i j => .int (i + j)) := opI0 fun _ _ _ _ _ _ _ q => add_int q
theorem op_sub : OpR X (binaryOp .Sub) (rI0 fun i j => .int (i - j)) := opI0 fun _ _ _ _ _ _ _ q => sub_int q
theorem op_mul : OpR X (binaryOp .Mult) (rI CMul fun i j => .int (i * j)) := opI fun _ _ _ _ _ _ _ hc q => mul_int q hc.ok
/-- // by a positive divisor -/
theorem op_fdiv : OpR X (binaryOp .FloorDiv) (rI CDiv fun i j => .int (i / j)) := opI fun i j _ _ _ _ _ hc q => by
  have h1 : (0 : Int) < j := hc.1
  have h2 : j < 1073741824 := hc.2
  exact floordiv_int (by omega) (by rw [Int.fdiv_eq_ediv_of_nonneg i (by omega)]; exact q) (.inl (PyProof.noPylong_small (by omega)))
theorem op_fdivN : OpR X (binaryOp .FloorDiv) (rI CDivN fun i j => .int (i.fdiv j)) := opI fun _ _ _ _ _ _ _ hc q => floordiv_int hc.1 q (.inl (PyProof.noPylong_small hc.2))
/-- % by a positive divisor of any size -/
theorem op_mod : OpR X (binaryOp .Mod) (rI (fun _ j => 0 < j) fun i j => .int (i % j)) := opI fun i j _ _ _ _ _ hc q => by
  have h1 : (0 : Int) < j := hc
  exact mod_int' (by omega) (by rw [Int.fmod_eq_emod_of_nonneg i (by omega)]; exact q)
theorem op_modN : OpR X (binaryOp .Mod) (rI (fun _ j => j ≠ 0) fun i j => .int (i.fmod j)) := opI fun _ _ _ _ _ _ _ hc q => mod_int' hc q
theorem op_pow : OpR X (binaryOp .Pow) (rI CPow fun i j => .int (i ^ j.toNat)) := opI fun _ _ _ _ _ _ _ hc q => pow_int_small hc.1 hc.2.1 hc.2.2 q
theorem op_shl : OpR X (binaryOp .LShift) (rI CPow fun i j => .int (i * 2 ^ j.toNat)) := opI fun _ _ _ _ _ _ _ hc q => lshift_int_small hc.1 hc.2.1 hc.2.2 q
theorem op_shr : OpR X (binaryOp .RShift) (rI (fun _ j => 0 ≤ j) fun i j => .int (i / 2 ^ j.toNat)) := opI fun i j _ _ _ _ _ hc q =>
  rshift_int hc (by rw [Int.fdiv_eq_ediv_of_nonneg i (two_pow_nn _)]; exact q)
theorem op_and : OpR X (binaryOp .BitAnd) (rI0 fun i j => .int (Builtin.bitAnd i j)) := opI0 fun _ _ _ _ _ _ _ q => and_int q
theorem op_or : OpR X (binaryOp .BitOr) (rI0 fun i j => .int (Builtin.bitOr i j)) := opI0 fun _ _ _ _ _ _ _ q => or_int q
theorem op_xor : OpR X (binaryOp .BitXor) (rI0 fun i j => .int (Builtin.bitXor i j)) := opI0 fun _ _ _ _ _ _ _ q => xor_int q

theorem iop_add : OpR X (inplaceOp .Add) (rI0 fun i j => .int (i + j)) := opI0 fun _ _ _ _ _ _ _ q => iadd_int q
theorem iop_sub : OpR X (inplaceOp .Sub) (rI0 fun i j => .int (i - j)) := opI0 fun _ _ _ _ _ _ _ q => isub_int q
theorem iop_mul : OpR X (inplaceOp .Mult) (rI CMul fun i j => .int (i * j)) := opI fun _ _ _ _ _ _ _ hc q => imul_int q hc.ok
theorem iop_fdiv : OpR X (inplaceOp .FloorDiv) (rI CDiv fun i j => .int (i / j)) := opI fun i j _ _ _ _ _ hc q => by
  have h1 : (0 : Int) < j := hc.1
  have h2 : j < 1073741824 := hc.2
  exact ifloordiv_int (by omega) (by rw [Int.fdiv_eq_ediv_of_nonneg i (by omega)]; exact q) (.inl (PyProof.noPylong_small (by omega)))
theorem iop_mod : OpR X (inplaceOp .Mod) (rI (fun _ j => 0 < j) fun i j => .int (i % j)) := opI fun i j _ _ _ _ _ hc q => by
  have h1 : (0 : Int) < j := hc
  exact imod_int (by omega) (by rw [Int.fmod_eq_emod_of_nonneg i (by omega)]; exact q)
theorem iop_shl : OpR X (inplaceOp .LShift) (rI CPow fun i j => .int (i * 2 ^ j.toNat)) := opI fun _ _ _ _ _ _ _ hc q => ilshift_int_small hc.1 hc.2.1 hc.2.2 q
theorem iop_shr : OpR X (inplaceOp .RShift) (rI (fun _ j => 0 ≤ j) fun i j => .int (i / 2 ^ j.toNat)) := opI fun i j _ _ _ _ _ hc q =>
  irshift_int hc (by rw [Int.fdiv_eq_ediv_of_nonneg i (two_pow_nn _)]; exact q)
theorem iop_and : OpR X (inplaceOp .BitAnd) (rI0 fun i j => .int (Builtin.bitAnd i j)) := opI0 fun _ _ _ _ _ _ _ q => iand_int q
theorem iop_or : OpR X (inplaceOp .BitOr) (rI0 fun i j => .int (Builtin.bitOr i j)) := opI0 fun _ _ _ _ _ _ _ q => ior_int q
theorem iop_xor : OpR X (inplaceOp .BitXor) (rI0 fun i j => .int (Builtin.bitXor i j)) := opI0 fun _ _ _ _ _ _ _ q => ixor_int q

theorem unI {f : Value → Sem Value} {g : Int → Int}
    (rule : ∀ (i : Int) (t : Tok) (s : Shared) (Q : Value → Shared → Prop) (E : Value → Shared → Prop), Q (.int (g i) s.toks) { s with toks := s.toks + 1 } → wpAny (model X.prog X.w) X.A (f (.int i t)) Q E s) :
    UnR X f (rU fun i => .int (g i)) := by
  intro pins s σ H x v Q I rx h
  obtain ⟨i, rfl, q⟩ := h
  obtain ⟨t, rfl⟩ := rx
  exact rule i t s _ _ ⟨.int (g i), H, I.tok _, ⟨_, rfl⟩, q⟩
theorem un_neg : UnR X (unaryOp .USub) (rU fun i => .int (-i)) := unI fun _ _ _ _ _ q => neg_int q
theorem un_inv : UnR X (unaryOp .Invert) (rU fun i => .int (Builtin.bitNot i)) := unI fun _ _ _ _ _ q => invert_int q

/-! ### bools among ints: n += (a < b) -/
theorem op_add_ib : OpR X (binaryOp .Add) (fun x y H Q => ∃ i k, x = .int i ∧ y = .bl k ∧ Q (.int (i + b2i k)) H) := by
  intro pins s σ H x y v u Q I rx ry h
  obtain ⟨i, k, rfl, rfl, q⟩ := h
  obtain ⟨t, rfl⟩ := rx
  cases ry
  exact add_int_bool ⟨.int (i + b2i k), H, I.tok _, ⟨_, rfl⟩, q⟩
end

/-! ### comparisons -/
/-- the scalars that == tells apart as data does -/
def scal : V → V → Bool
  | .non, .non => true | .non, .int _ => true | .int _, .non => true | .non, .bl _ => true | .bl _, .non => true | .non, .str _ => true | .str _, .non => true
  | .int _, .int _ => true | .bl _, .bl _ => true | .str _, .str _ => true | .byt _, .byt _ => true
  | .int _, .str _ => true | .str _, .int _ => true | .bl _, .str _ => true | .str _, .bl _ => true
  | _, _ => false
def rEq : R2 := fun x y H Q => scal x y = true ∧ Q (.bl (decide (x = y))) H
def rNe : R2 := fun x y H Q => scal x y = true ∧ Q (.bl (!decide (x = y))) H

theorem dec_int {i j : Int} : decide (V.int i = V.int j) = (i == j) := by
  rw [Bool.eq_iff_iff]
  simp
theorem dec_bl {i j : Bool} : decide (V.bl i = V.bl j) = (i == j) := by
  rw [Bool.eq_iff_iff]
  simp
theorem dec_str {i j : Str} : decide (V.str i = V.str j) = (i == j) := by
  rw [Bool.eq_iff_iff]
  simp
theorem dec_byt {i j : Array UInt8} : decide (V.byt i = V.byt j) = (i.toList == j.toList) := by
  rw [Bool.eq_iff_iff]
  cases i
  cases j
  simp

section
variable {X : Cx} {a b c : Expr} {ta tb tc : TE} {pos : Pos}
theorem fin_bl {pins : List (Addr × Obj)} {σ : St} {H : Hp} {s : Shared} {Q : VK} {k k' : Bool} (I : Inv X pins σ H s) (q : Q (.bl k) H) (e : k = k') : EP X pins σ Q (.bool k') s := by
  subst e
  exact ⟨.bl k, H, I, rfl, q⟩
theorem op_eq : OpR X (compareOp .Eq) rEq := by
  intro pins s σ H x y v u Q I rx ry h
  obtain ⟨hs, q⟩ := h
  cases x with
  | non =>
    cases rx
    cases y with
    | non => cases ry; exact PySem.EqNone.eq_none_none (fin_bl I q (by simp))
    | bl j => cases ry; exact PySem.EqNone.eq_none_bool (fin_bl I q (by simp))
    | int j => obtain ⟨t', rfl⟩ := ry; exact PySem.EqNone.eq_none_int (fin_bl I q (by simp))
    | str j => obtain ⟨t', rfl⟩ := ry; exact PySem.EqNone.eq_none_str (fin_bl I q (by simp))
    | _ => exact absurd (show false = true from hs) Bool.false_ne_true
  | bl i =>
    cases rx
    cases y with
    | non => cases ry; exact PySem.EqNone.eq_bool_none (fin_bl I q (by simp))
    | bl j => cases ry; exact eq_bool (fin_bl I q dec_bl)
    | str j => obtain ⟨t', rfl⟩ := ry; exact PySem.EqMixed.eq_bool_str (fin_bl I q (by simp))
    | _ => exact absurd (show false = true from hs) Bool.false_ne_true
  | int i =>
    obtain ⟨t, rfl⟩ := rx
    cases y with
    | non => cases ry; exact PySem.EqNone.eq_int_none (fin_bl I q (by simp))
    | int j => obtain ⟨t', rfl⟩ := ry; exact eq_int (fin_bl I q dec_int)
    | str j => obtain ⟨t', rfl⟩ := ry; exact PySem.EqMixed.eq_int_str (fin_bl I q (by simp))
    | _ => exact absurd (show false = true from hs) Bool.false_ne_true
  | str i =>
    obtain ⟨t, rfl⟩ := rx
    cases y with
    | non => cases ry; exact PySem.EqNone.eq_str_none (fin_bl I q (by simp))
    | bl j => cases ry; exact PySem.EqMixed.eq_str_bool (fin_bl I q (by simp))
    | int j => obtain ⟨t', rfl⟩ := ry; exact PySem.EqMixed.eq_str_int (fin_bl I q (by simp))
    | str j => obtain ⟨t', rfl⟩ := ry; exact eq_str (fin_bl I q dec_str)
    | _ => exact absurd (show false = true from hs) Bool.false_ne_true
  | byt i =>
    obtain ⟨t, rfl⟩ := rx
    cases y with
    | byt j => obtain ⟨t', rfl⟩ := ry; exact PySem.W.eq_bytes (fin_bl I q dec_byt)
    | _ => exact absurd (show false = true from hs) Bool.false_ne_true
  | _ => cases y <;> exact absurd (show false = true from hs) Bool.false_ne_true
theorem op_ne : OpR X (compareOp .NotEq) rNe := by
  intro pins s σ H x y v u Q I rx ry h
  obtain ⟨hs, q⟩ := h
  cases x with
  | non =>
    cases rx
    cases y with
    | non => cases ry; exact PySem.EqNone.ne_none_none (fin_bl I q (by simp))
    | bl j => cases ry; exact PySem.EqNone.ne_none_bool (fin_bl I q (by simp))
    | int j => obtain ⟨t', rfl⟩ := ry; exact PySem.EqNone.ne_none_int (fin_bl I q (by simp))
    | str j => obtain ⟨t', rfl⟩ := ry; exact PySem.EqNone.ne_none_str (fin_bl I q (by simp))
    | _ => exact absurd (show false = true from hs) Bool.false_ne_true
  | bl i =>
    cases rx
    cases y with
    | non => cases ry; exact PySem.EqNone.ne_bool_none (fin_bl I q (by simp))
    | bl j => cases ry; exact ne_bool (fin_bl I q (congrArg not dec_bl))
    | str j => obtain ⟨t', rfl⟩ := ry; exact PySem.EqMixed.ne_bool_str (fin_bl I q (by simp))
    | _ => exact absurd (show false = true from hs) Bool.false_ne_true
  | int i =>
    obtain ⟨t, rfl⟩ := rx
    cases y with
    | non => cases ry; exact PySem.EqNone.ne_int_none (fin_bl I q (by simp))
    | int j => obtain ⟨t', rfl⟩ := ry; exact ne_int (fin_bl I q (congrArg not dec_int))
    | str j => obtain ⟨t', rfl⟩ := ry; exact PySem.EqMixed.ne_int_str (fin_bl I q (by simp))
    | _ => exact absurd (show false = true from hs) Bool.false_ne_true
  | str i =>
    obtain ⟨t, rfl⟩ := rx
    cases y with
    | non => cases ry; exact PySem.EqNone.ne_str_none (fin_bl I q (by simp))
    | bl j => cases ry; exact PySem.EqMixed.ne_str_bool (fin_bl I q (by simp))
    | int j => obtain ⟨t', rfl⟩ := ry; exact PySem.EqMixed.ne_str_int (fin_bl I q (by simp))
    | str j => obtain ⟨t', rfl⟩ := ry; exact ne_str (fin_bl I q (congrArg not dec_str))
    | _ => exact absurd (show false = true from hs) Bool.false_ne_true
  | byt i =>
    obtain ⟨t, rfl⟩ := rx
    cases y with
    | byt j => obtain ⟨t', rfl⟩ := ry; exact PySem.W.ne_bytes (fin_bl I q (congrArg not dec_byt))
    | _ => exact absurd (show false = true from hs) Bool.false_ne_true
  | _ => cases y <;> exact absurd (show false = true from hs) Bool.false_ne_true

theorem op_lt : OpR X (compareOp .Lt) (rI0 fun i j => .bl (decide (i < j))) := opB0 fun _ _ _ _ _ _ _ q => lt_int q
theorem op_le : OpR X (compareOp .LtE) (rI0 fun i j => .bl (decide (i ≤ j))) := opB0 fun _ _ _ _ _ _ _ q => le_int q
theorem op_gt : OpR X (compareOp .Gt) (rI0 fun i j => .bl (decide (j < i))) := opB0 fun _ _ _ _ _ _ _ q => gt_int q
theorem op_ge : OpR X (compareOp .GtE) (rI0 fun i j => .bl (decide (j ≤ i))) := opB0 fun _ _ _ _ _ _ _ q => ge_int q
theorem op_lt_str : OpR X (compareOp .Lt) (fun x y H Q => ∃ i j, x = .str i ∧ y = .str j ∧ Q (.bl (decide (i.cps.toList < j.cps.toList))) H) := by
  intro pins s σ H x y v u Q I rx ry h
  obtain ⟨i, j, rfl, rfl, q⟩ := h
  obtain ⟨t, rfl⟩ := rx
  obtain ⟨t', rfl⟩ := ry
  exact lt_str (fin_bl I q rfl)
/-- the one string within the other -/
theorem op_in_str : OpR X (compareOp .In) (fun x y H Q => ∃ i j, x = .str i ∧ y = .str j ∧ Q (.bl (!(Builtin.Str.occurrences j i 0 j.length 1).isEmpty)) H) := by
  intro pins s σ H x y v u Q I rx ry h
  obtain ⟨i, j, rfl, rfl, q⟩ := h
  obtain ⟨t, rfl⟩ := rx
  obtain ⟨t', rfl⟩ := ry
  exact in_str (fin_bl I q rfl)

/-- is None, is not None: the right side a value none -/
theorem op_isN : OpR X (compareOp .Is) (fun x y H Q => y = .non ∧ Q (.bl (decide (x = .non))) H) := by
  intro pins s σ H x y v u Q I rx ry h
  obtain ⟨rfl, q⟩ := h
  cases ry
  refine is_none_gen (fin_bl I q ?_)
  cases x <;> first
    | (cases rx; rfl)
    | (obtain ⟨t, rfl⟩ := rx; rfl)
theorem op_notN : OpR X (compareOp .IsNot) (fun x y H Q => y = .non ∧ Q (.bl (!decide (x = .non))) H) := by
  intro pins s σ H x y v u Q I rx ry h
  obtain ⟨rfl, q⟩ := h
  cases ry
  refine isnot_none_gen (fin_bl I q ?_)
  cases x <;> first
    | (cases rx; rfl)
    | (obtain ⟨t, rfl⟩ := rx; rfl)

theorem op_notin_str : OpR X (compareOp .NotIn) (fun x y H Q => ∃ i j, x = .str i ∧ y = .str j ∧ Q (.bl (!(!(Builtin.Str.occurrences j i 0 j.length 1).isEmpty))) H) := by
  intro pins s σ H x y v u Q I rx ry h
  obtain ⟨i, j, rfl, rfl, q⟩ := h
  obtain ⟨t, rfl⟩ := rx
  obtain ⟨t', rfl⟩ := ry
  exact notIn_str (fin_bl I q rfl)
/-- is, is not of two objects that are tracked lists or instances -/
def isObj : HO → Bool
  | .lst _ => true
  | .ins _ _ _ => true
  | _ => false
theorem obj_there {pins : List (Addr × Obj)} {s : Shared} {σ : St} {H : Hp} {a : Addr} {o : HO} (I : Inv X pins σ H s) (h : H a = some o) (p : isObj o = true) : ∃ ob, s.heap.get? a = some ob ∧ ob.cls ≠ .type "tuple" := by
  cases o with
  | lst xs =>
    obtain ⟨_, its, n, _, e⟩ : xs.length ≤ sizeLine ∧ ∃ (its : List Value) (n : Nat), Vals xs its ∧ s.heap.get? a = some { cls := .type "list", data := .seq its.toArray n } := I.hok a _ h
    exact ⟨_, e, (by show Value.type "list" ≠ .type "tuple"; decide +kernel)⟩
  | ins C dx fs =>
    have x := I.hok a _ h
    obtain ⟨_, _, _, e, _⟩ := x
    exact ⟨_, e, (by show Value.ref C ≠ .type "tuple"; exact fun z => by cases z)⟩
  | _ => exact absurd (show false = true from p) Bool.false_ne_true
theorem op_is_ref : OpR X (compareOp .Is) (fun x y H Q => ∃ a b oa ob, x = .ref a ∧ y = .ref b ∧ H a = some oa ∧ isObj oa = true ∧ H b = some ob ∧ isObj ob = true ∧ Q (.bl (decide (a = b))) H) := by
  intro pins s σ H x y v u Q I rx ry h
  obtain ⟨a, b, oa, ob, rfl, rfl, ha, pa, hb, pb, q⟩ := h
  cases rx
  cases ry
  obtain ⟨o1, e1, n1⟩ := obj_there I ha pa
  obtain ⟨o2, e2, _⟩ := obj_there I hb pb
  by_cases z : a = b
  · subst z
    exact wpAny_is_ref_self (fin_bl I q (by simp))
  · exact wpAny_is_ref_other z e1 e2 n1 (fin_bl I q (by simp [z]))
theorem op_isnot_ref : OpR X (compareOp .IsNot) (fun x y H Q => ∃ a b oa ob, x = .ref a ∧ y = .ref b ∧ H a = some oa ∧ isObj oa = true ∧ H b = some ob ∧ isObj ob = true ∧ Q (.bl (!decide (a = b))) H) := by
  intro pins s σ H x y v u Q I rx ry h
  obtain ⟨a, b, oa, ob, rfl, rfl, ha, pa, hb, pb, q⟩ := h
  cases rx
  cases ry
  obtain ⟨o1, e1, n1⟩ := obj_there I ha pa
  obtain ⟨o2, e2, _⟩ := obj_there I hb pb
  by_cases z : a = b
  · subst z
    exact wpAny_isNot_ref_self (fin_bl I q (by simp))
  · exact wpAny_isNot_ref_other z e1 e2 n1 (fin_bl I q (by simp [z]))

/-- two rules for one operation: by cases -/
theorem OpR.or {f : Value → Value → Sem Value} {r r' : R2} (h : OpR X f r) (h' : OpR X f r') : OpR X f (fun x y H Q => r x y H Q ∨ r' x y H Q) := by
  intro pins s σ H x y v u Q I rx ry q
  rcases q with q | q
  · exact h pins s σ H x y v u Q I rx ry q
  · exact h' pins s σ H x y v u Q I rx ry q

theorem nomark (b : Expr) {op : CmpOp} (h : op ≠ .In := by decide) (h2 : op ≠ .NotIn := by decide) : behindInMarks op b = false := by
  have e1 : (op == CmpOp.In) = false := by cases op <;> first | rfl | exact absurd rfl h
  have e2 : (op == CmpOp.NotIn) = false := by cases op <;> first | rfl | exact absurd rfl h2
  cases b <;> simp [behindInMarks, e1, e2]
/-- a comparison as a value; hm: nomark b, or (for in, not in) by with_unfolding_all rfl -/
theorem pe_cmpR {op : CmpOp} {r : R2} (ho : OpR X (compareOp op) r) (ha : PE X a ta) (hb : PE X b tb) (hm : behindInMarks op b = false) : PE X (.Compare a [op] [b] pos) (tOp r ta tb) := by
  intro pins s σ H Q I h
  exact wpAny_Compare1 (binT ha hb I h fun v u s2 x y H2 I2 rx ry q => ho pins s2 σ H2 x y v u Q I2 rx ry q) hm
/-- a reading of a value as a test -/
def tTest (t : TE) : TT := fun σ H Q => t σ H fun x H' => ∃ k, x = .bl k ∧ Q k H'
theorem pt_cmpR {op : CmpOp} {r : R2} (ho : OpR X (compareOp op) r) (ha : PE X a ta) (hb : PE X b tb) (hm : behindInMarks op b = false) : PT X (.Compare a [op] [b] pos) (tTest (tOp r ta tb)) := by
  intro pins s σ H Q I h
  refine wpAny_isTrue_Compare1 (thn (ha pins s σ H _ I h) fun v s1 ⟨x, H1, I1, r1, q1⟩ => thn (hb pins s1 σ H1 _ I1 q1) fun u s2 ⟨y, H2, I2, r2, q2⟩ =>
    thn (ho pins s2 σ H2 x y v u _ I2 r1 r2 q2) fun c s3 ⟨z, H3, I3, r3, k, e, q3⟩ => ?_) hm
  subst e
  cases r3
  exact wpAny_truthy_bool ⟨H3, I3, q3⟩
/-- a op1 b op2 c -/
def tChain (r r' : R2) (ta tb tc : TE) : TE := fun σ H Q => ta σ H fun x H1 => tb σ H1 fun y H2 => r x y H2 fun z H3 => ∃ k, z = .bl k ∧
  (if k = true then tc σ H3 fun w' H4 => r' y w' H4 Q else Q (.bl false) H3)
theorem pe_chain {op op' : CmpOp} {r r' : R2} (ho : OpR X (compareOp op) r) (ho' : OpR X (compareOp op') r') (ha : PE X a ta) (hb : PE X b tb) (hc : PE X c tc)
    (hm : lastMarks [op, op'] [b, c] = false := by with_unfolding_all rfl) : PE X (.Compare a [op, op'] [b, c] pos) (tChain r r' ta tb tc) := by
  intro pins s σ H Q I h
  refine Compare_chain (thn (ha pins s σ H _ I h) fun v s1 ⟨x, H1, I1, r1, q1⟩ => chain_link (thn (hb pins s1 σ H1 _ I1 q1) fun u s2 ⟨y, H2, I2, r2, q2⟩ =>
    thn (ho pins s2 σ H2 x y v u _ I2 r1 r2 q2) fun d s3 ⟨z, H3, I3, r3, k, e, q3⟩ => ?_)) hm
  subst e
  cases r3
  refine wpAny_truthy_bool ?_
  cases k with
  | false => exact ite_ff ⟨.bl false, H3, I3, rfl, q3⟩
  | true => exact ite_tt (chain_last (thn (hc pins s3 σ H3 _ I3 q3) fun w' s4 ⟨z', H4, I4, r4, q4⟩ => ho' pins s4 σ H4 y z' u w' Q I4 r2 r4 q4))
theorem pt_chain {op op' : CmpOp} {r r' : R2} (ho : OpR X (compareOp op) r) (ho' : OpR X (compareOp op') r') (ha : PE X a ta) (hb : PE X b tb) (hc : PE X c tc)
    (hm : lastMarks [op, op'] [b, c] = false := by with_unfolding_all rfl) : PT X (.Compare a [op, op'] [b, c] pos) (tTest (tChain r r' ta tb tc)) := by
  intro pins s σ H Q I h
  refine isTrue_chain (thn (ha pins s σ H _ I h) fun v s1 ⟨x, H1, I1, r1, q1⟩ => test_link (thn (hb pins s1 σ H1 _ I1 q1) fun u s2 ⟨y, H2, I2, r2, q2⟩ =>
    thn (ho pins s2 σ H2 x y v u _ I2 r1 r2 q2) fun d s3 ⟨z, H3, I3, r3, k, e, q3⟩ => ?_)) hm
  subst e
  cases r3
  refine wpAny_truthy_bool ?_
  cases k with
  | false =>
    obtain ⟨k', e', q'⟩ := q3
    cases e'
    exact ite_ff ⟨H3, I3, q'⟩
  | true =>
    refine ite_tt (test_last (thn (hc pins s3 σ H3 _ I3 q3) fun w' s4 ⟨z', H4, I4, r4, q4⟩ => thn (ho' pins s4 σ H4 y z' u w' _ I4 r2 r4 q4) fun d' s5 ⟨z2, H5, I5, r5, k2, e2, q5⟩ => ?_))
    subst e2
    cases r5
    exact wpAny_truthy_bool ⟨H5, I5, q5⟩

/-! ### truth -/
/-- a value's truth by the abstract heap -/
def TruV (K : PySem.W.Frag) (x : V) (H : Hp) (k : Bool) : Prop :=
  match x with
  | .non => k = false
  | .bl b => k = b
  | .int i => k = (i != 0)
  | .str y => y.length ≤ sizeLine ∧ k = ((y.length : Int) != 0)
  | .byt y => y.size ≤ sizeLine ∧ k = ((y.size : Int) != 0)
  | .ref p => (∃ xs, SqL K H p xs ∧ k = !xs.isEmpty) ∨ (∃ xs, SqT K H p xs ∧ k = !xs.isEmpty) ∨ ∃ kvs, H p = some (.dK kvs) ∧ k = !kvs.isEmpty
  | _ => False
theorem isEmpty_kv {κ : Type} {kvs : List (κ × V)} {vs : List (κ × Value)} (r : KV kvs vs) : (!vs.isEmpty) = !kvs.isEmpty := by
  cases r <;> rfl
theorem isEmpty_of {xs : List V} {its : List Value} (r : Vals xs its) : (!its.toArray.isEmpty) = !xs.isEmpty := by
  cases r <;> simp
theorem line63 : (sizeLine : Nat) < 2 ^ 63 := by rw [sizeLine_eq]; decide
theorem tru_ok : TruR X (fun x H Q => ∃ k, TruV X.K x H k ∧ Q k H) := by
  intro pins s σ H x v Q I rx h
  obtain ⟨k, e, q⟩ := h
  have hl := line63
  have hs : sizeLine = 16777216 := sizeLine_eq
  cases x with
  | non =>
    cases rx
    have e' : k = false := e
    subst e'
    exact truthy_none ⟨H, I, q⟩
  | bl b =>
    cases rx
    have e' : k = b := e
    subst e'
    exact wpAny_truthy_bool ⟨H, I, q⟩
  | int i =>
    obtain ⟨t, rfl⟩ := rx
    have e' : k = (i != 0) := e
    subst e'
    exact PySem.P.truthy_int ⟨H, I, q⟩
  | str y =>
    obtain ⟨t, rfl⟩ := rx
    obtain ⟨hy, e'⟩ : y.length ≤ sizeLine ∧ k = ((y.length : Int) != 0) := e
    subst e'
    exact PySem.P.truthy_str (by omega) ⟨H, I.tok _, q⟩
  | byt y =>
    obtain ⟨t, rfl⟩ := rx
    obtain ⟨hy, e'⟩ : y.size ≤ sizeLine ∧ k = ((y.size : Int) != 0) := e
    subst e'
    exact PySem.W.truthy_bytes (by omega) ⟨H, I.tok _, q⟩
  | ref p =>
    cases rx
    have e' : (∃ xs, SqL X.K H p xs ∧ k = !xs.isEmpty) ∨ (∃ xs, SqT X.K H p xs ∧ k = !xs.isEmpty) ∨ ∃ kvs, H p = some (.dK kvs) ∧ k = !kvs.isEmpty := e
    rcases e' with ⟨xs, hx, e'⟩ | ⟨xs, hx, e'⟩ | ⟨kvs, hx, e'⟩
    · subst e'
      obtain ⟨its, r, pl, hz⟩ := I.list hx
      have hlen := r.length
      exact wpAny_truthy_list pl.isList (by simp only [List.size_toArray]; omega) ⟨H, I.tok _, by rw [isEmpty_of r]; exact q⟩
    · subst e'
      obtain ⟨its, r, pl, hz⟩ := I.tuple hx
      have hlen := r.length
      exact truthy_tuple pl (by simp only [List.size_toArray]; omega) ⟨H, I.tok _, by rw [isEmpty_of r]; exact q⟩
    · subst e'
      obtain ⟨hz, hS, vs, r, m⟩ : kvs.length ≤ sizeLine ∧ (p == sysModules) = false ∧ ∃ vs, KV kvs vs ∧ s.heap.DictOf (mixKind X.prog X.w) p vs := I.hok p _ hx
      have hlen : kvs.length = vs.length := Paired.length r
      exact wpAny_truthy_dict hS m (by omega) ⟨H, I.tok _, by rw [isEmpty_kv r]; exact q⟩
  | _ => exact (show False from e).elim
/-- any expression whose test is its value's truth (a name, a call, a subscript, a field ..: he by fun _ => rfl) -/
theorem pt_truth (ha : PE X a ta) (he : ∀ whole, isTrue a X.env whole = (do let v ← whole; standAt a.pos; holding [v] (truthy v))) :
    PT X a (fun σ H Q => ta σ H fun x H' => ∃ k, TruV X.K x H' k ∧ Q k H') := by
  intro pins s σ H Q I h
  exact isTrue_plain (thn (ha pins s σ H _ I h) fun v s1 ⟨x, H1, I1, r1, q1⟩ => tru_ok pins s1 σ H1 x v Q I1 r1 q1) (he _)

/-! ### strs and bytes -/
theorem pe_byt {x : List UInt8} {k : Nat} : PE X (.Constant (.bytes x) k pos) (fun _ H Q => Q (.byt x.toArray) H) := fun _ _ _ H _ I h => PySem.W.Constant_bytes ⟨.byt x.toArray, H, I.tok _, ⟨_, rfl⟩, h⟩
theorem op_add_str : OpR X (binaryOp .Add) (fun x y H Q => ∃ i j, x = .str i ∧ y = .str j ∧ i.length + j.length ≤ sizeLine ∧ Q (.str (i ++ j)) H) := by
  intro pins s σ H x y v u Q I rx ry h
  obtain ⟨i, j, rfl, rfl, hz, q⟩ := h
  obtain ⟨t, rfl⟩ := rx
  obtain ⟨t', rfl⟩ := ry
  exact add_str (fun t' tk => ⟨.str (i ++ j), H, I.tok _, ⟨_, rfl⟩, q⟩) hz
theorem iop_add_str : OpR X (inplaceOp .Add) (fun x y H Q => ∃ i j, x = .str i ∧ y = .str j ∧ i.length + j.length ≤ sizeLine ∧ Q (.str (i ++ j)) H) := by
  intro pins s σ H x y v u Q I rx ry h
  obtain ⟨i, j, rfl, rfl, hz, q⟩ := h
  obtain ⟨t, rfl⟩ := rx
  obtain ⟨t', rfl⟩ := ry
  exact iadd_str (fun t' tk => ⟨.str (i ++ j), H, I.tok _, ⟨_, rfl⟩, q⟩) hz
theorem op_add_byt : OpR X (binaryOp .Add) (fun x y H Q => ∃ i j, x = .byt i ∧ y = .byt j ∧ i.size + j.size ≤ 16777216 ∧ Q (.byt (i ++ j)) H) := by
  intro pins s σ H x y v u Q I rx ry h
  obtain ⟨i, j, rfl, rfl, hz, q⟩ := h
  obtain ⟨t, rfl⟩ := rx
  obtain ⟨t', rfl⟩ := ry
  exact PySem.W.KBy.add_bytes hz (fun t' tk => ⟨.byt (i ++ j), H, I.tok _, ⟨_, rfl⟩, q⟩)

def PlainIxT (b : Expr) : Prop := ∀ o i, subscripted b false o i = operate [o, i] (getItem o i)
/-- s[i], 0 ≤ i < len -/
theorem pe_item_str (ha : PE X a ta) (hb : PE X b tb) (hs : PlainIxT b) :
    PE X (.Subscript a b pos) (tOp (fun x y H Q => ∃ z i c, x = .str z ∧ y = .int i ∧ 0 ≤ i ∧ i < 2 ^ 63 ∧ i < z.length ∧ z.cps[i.toNat]? = some c ∧ Q (.str ⟨#[c]⟩) H) ta tb) := by
  intro pins s σ H Q I h
  refine Subscript_ (binT ha hb I h fun v u s2 x y H2 I2 rx ry q => ?_)
  obtain ⟨z, i, c, rfl, rfl, h0, h63, h1, hc, q⟩ := q
  obtain ⟨t, rfl⟩ := rx
  obtain ⟨t', rfl⟩ := ry
  have e : seqIndex? i z.length = some i.toNat := PySem.StrLaws.seqIndex_nonneg h0 h1
  exact tail_any (typeIs_str s2 z t) slot_str_getitem.lookup (getItem_str (c := c) (by
    have e1 : decide (i < -(2 ^ 63 : Int)) = false := decide_eq_false (by omega)
    have e2 : decide (i ≥ 2 ^ 63) = false := decide_eq_false (by omega)
    rw [e1, e2] <;> rfl) (by rw [e]; exact hc) ⟨.str ⟨#[c]⟩, H2, I2.tok _, ⟨_, rfl⟩, q⟩) (hs _ _)
/-- b[i], 0 ≤ i < len -/
theorem pe_item_byt (ha : PE X a ta) (hb : PE X b tb) (hs : PlainIxT b) :
    PE X (.Subscript a b pos) (tOp (fun x y H Q => ∃ (z : List UInt8) (i : Int), x = .byt z.toArray ∧ y = .int i ∧ z.length ≤ sizeLine ∧ 0 ≤ i ∧ i < z.length ∧ Q (.int ((z.getD i.toNat 0).toNat : Nat)) H) ta tb) := by
  intro pins s σ H Q I h
  refine Subscript_ (binT ha hb I h fun v u s2 x y H2 I2 rx ry q => ?_)
  obtain ⟨z, i, rfl, rfl, hz, h0, h1, q⟩ := q
  obtain ⟨t, rfl⟩ := rx
  obtain ⟨t', rfl⟩ := ry
  have hl : sizeLine = 16777216 := sizeLine_eq
  exact tail_any (PySem.W.typeIs_bytes s2 z.toArray t) PySem.W.FB.slot_bytes_getitem.lookup (PySem.W.getItem_bytes (by omega) h0 h1 ⟨.int ((z.getD i.toNat 0).toNat : Nat), H2, I2.tok _, ⟨_, rfl⟩, q⟩) (hs _ _)

/-! ### scalar builtins, by CallR -/
theorem vals1 {x : V} {us : List Value} (r : Vals [x] us) : ∃ u, us = [u] ∧ RelV x u := by
  cases r with
  | cons r1 r2 => cases r2; exact ⟨_, rfl, r1⟩
theorem vals2 {x y : V} {us : List Value} (r : Vals [x, y] us) : ∃ u w', us = [u, w'] ∧ RelV x u ∧ RelV y w' := by
  cases r with
  | cons r1 r2 =>
    cases r2 with
    | cons r3 r4 => cases r4; exact ⟨_, _, rfl, r1, r3⟩
theorem call_abs : CallR X (.builtin "abs") (fun xs H Q => ∃ i, xs = [.int i] ∧ Q (.int (if i < 0 then -i else i)) H) := by
  intro pins s σ H xs us Q I r h
  obtain ⟨i, rfl, q⟩ := h
  obtain ⟨u, rfl, t, rfl⟩ := vals1 r
  exact call_abs_int fun u tk => ⟨.int (if i < 0 then -i else i), H, I.tok _, ⟨_, rfl⟩, q⟩
theorem call_max2 (hc : X.calm = true) : CallR X (.builtin "max") (fun xs H Q => ∃ i j, xs = [.int i, .int j] ∧ Q (.int (if j > i then j else i)) H) := by
  intro pins s σ H xs us Q I r h
  obtain ⟨i, j, rfl, q⟩ := h
  obtain ⟨u, w', rfl, ⟨t, rfl⟩, ⟨t', rfl⟩⟩ := vals2 r
  refine max_two_ints (I.ok.hd hc) fun h' tk k => ⟨_, H, I.kept k, ?_, q⟩
  by_cases hj : j > i
  · rw [if_pos hj, if_pos hj]; exact ⟨_, rfl⟩
  · rw [if_neg hj, if_neg hj]; exact ⟨_, rfl⟩
theorem call_min2 (hc : X.calm = true) : CallR X (.builtin "min") (fun xs H Q => ∃ i j, xs = [.int i, .int j] ∧ Q (.int (if j < i then j else i)) H) := by
  intro pins s σ H xs us Q I r h
  obtain ⟨i, j, rfl, q⟩ := h
  obtain ⟨u, w', rfl, ⟨t, rfl⟩, ⟨t', rfl⟩⟩ := vals2 r
  refine min_two_ints (I.ok.hd hc) fun h' tk k => ⟨_, H, I.kept k, ?_, q⟩
  by_cases hj : j < i
  · rw [if_pos hj, if_pos hj]; exact ⟨_, rfl⟩
  · rw [if_neg hj, if_neg hj]; exact ⟨_, rfl⟩
theorem call_int1 : CallR X (.type "int") (fun xs H Q => (∃ i, xs = [.int i] ∧ Q (.int i) H) ∨ ∃ k, xs = [.bl k] ∧ Q (.int (if k then 1 else 0)) H) := by
  intro pins s σ H xs us Q I r h
  rcases h with ⟨i, rfl, q⟩ | ⟨k, rfl, q⟩
  · obtain ⟨u, rfl, t, rfl⟩ := vals1 r
    exact call_int_int ⟨.int i, H, I, ⟨_, rfl⟩, q⟩
  · obtain ⟨u, rfl, r1⟩ := vals1 r
    cases r1
    exact call_int_bool ⟨.int (if k then 1 else 0), H, I.tok _, ⟨_, rfl⟩, q⟩
theorem call_bool1 : CallR X (.type "bool") (fun xs H Q => (∃ i, xs = [.int i] ∧ Q (.bl (i != 0)) H) ∨ ∃ k, xs = [.bl k] ∧ Q (.bl k) H) := by
  intro pins s σ H xs us Q I r h
  rcases h with ⟨i, rfl, q⟩ | ⟨k, rfl, q⟩
  · obtain ⟨u, rfl, t, rfl⟩ := vals1 r
    exact call_bool_int ⟨.bl (i != 0), H, I, rfl, q⟩
  · obtain ⟨u, rfl, r1⟩ := vals1 r
    cases r1
    exact call_bool_bool ⟨.bl k, H, I, rfl, q⟩
theorem call_str_int : CallR X (.type "str") (fun xs H Q => ∃ i, xs = [.int i] ∧ i.natAbs.log2 < 1920 ∧ Q (.str (toString i)) H) := by
  intro pins s σ H xs us Q I r h
  obtain ⟨i, rfl, hz, q⟩ := h
  obtain ⟨u, rfl, t, rfl⟩ := vals1 r
  exact PySem.P.str_of_int hz ⟨.str _, H, I.tok _, ⟨_, rfl⟩, q⟩
theorem call_ord : CallR X (.builtin "ord") (fun xs H Q => ∃ x, xs = [.str x] ∧ x.length = 1 ∧ Q (.int (x.cps.getD 0 0 : Nat)) H) := by
  intro pins s σ H xs us Q I r h
  obtain ⟨x, rfl, hz, q⟩ := h
  obtain ⟨u, rfl, t, rfl⟩ := vals1 r
  exact ord_of_one hz ⟨.int _, H, I.tok _, ⟨_, rfl⟩, q⟩
theorem call_chr : CallR X (.builtin "chr") (fun xs H Q => ∃ i, xs = [.int i] ∧ 0 ≤ i ∧ i ≤ 1114111 ∧ Q (.str ⟨#[i.toNat]⟩) H) := by
  intro pins s σ H xs us Q I r h
  obtain ⟨i, rfl, h0, h1, q⟩ := h
  obtain ⟨u, rfl, t, rfl⟩ := vals1 r
  exact chr_of_range h0 h1 ⟨.str _, H, I.tok _, ⟨_, rfl⟩, q⟩
/-- len of a str, a bytes, a list, a tuple -/
def LenV (K : PySem.W.Frag) (x : V) (H : Hp) (n : Nat) : Prop :=
  match x with
  | .str y => y.length ≤ sizeLine ∧ n = y.length
  | .byt y => y.size ≤ sizeLine ∧ n = y.size
  | .ref p => (∃ xs, SqL K H p xs ∧ n = xs.length) ∨ ∃ xs, SqT K H p xs ∧ n = xs.length
  | _ => False
theorem call_len : CallR X (.builtin "len") (fun xs H Q => ∃ x n, xs = [x] ∧ LenV X.K x H n ∧ Q (.int n) H) := by
  intro pins s σ H xs us Q I r h
  obtain ⟨x, n, rfl, e, q⟩ := h
  obtain ⟨u, rfl, rx⟩ := vals1 r
  have hl := line63
  have hs : sizeLine = 16777216 := sizeLine_eq
  cases x with
  | str y =>
    obtain ⟨t, rfl⟩ := rx
    obtain ⟨hy, e'⟩ : y.length ≤ sizeLine ∧ n = y.length := e
    subst e'
    exact len_str (by omega) ⟨.int _, H, I.tok _, ⟨_, rfl⟩, q⟩
  | byt y =>
    obtain ⟨t, rfl⟩ := rx
    obtain ⟨hy, e'⟩ : y.size ≤ sizeLine ∧ n = y.size := e
    subst e'
    exact PySem.W.len_bytes (by omega) ⟨.int _, H, I.tok _, ⟨_, rfl⟩, q⟩
  | ref p =>
    cases rx
    have e' : (∃ xs, SqL X.K H p xs ∧ n = xs.length) ∨ ∃ xs, SqT X.K H p xs ∧ n = xs.length := e
    rcases e' with ⟨xs, hx, e'⟩ | ⟨xs, hx, e'⟩
    · subst e'
      obtain ⟨its, r', pl, hz⟩ := I.list hx
      have hlen := r'.length
      exact Calls.call_len_list pl.isList (by simp only [List.size_toArray]; omega) ⟨.int xs.length, H, I.tok _, ⟨_, by simp only [List.size_toArray]; rw [hlen]⟩, q⟩
    · subst e'
      obtain ⟨its, r', pl, hz⟩ := I.tuple hx
      have hlen := r'.length
      exact len_tuple pl (by simp only [List.size_toArray]; omega) ⟨.int xs.length, H, I.tok _, ⟨_, by simp only [List.size_toArray]; rw [hlen]⟩, q⟩
  | _ => exact (show False from e).elim
/-- divmod: a new tuple -/
theorem call_divmod : CallR X (.builtin "divmod") (fun xs H Q => ∃ i j, xs = [.int i, .int j] ∧ CDiv i j ∧ ∀ p, H p = none → Q (.ref p) (upd H p (.tup [.int (i / j), .int (i % j)]))) := by
  intro pins s σ H xs us Q I r h
  obtain ⟨i, j, rfl, ⟨h1, h2⟩, q⟩ := h
  obtain ⟨u, w', rfl, ⟨t, rfl⟩, ⟨t', rfl⟩⟩ := vals2 r
  refine divmod_int (by omega) ?_ (.inl (PyProof.noPylong_small (by omega)))
  rw [Int.fdiv_eq_ediv_of_nonneg i (by omega), Int.fmod_eq_emod_of_nonneg i (by omega)]
  have hn : H s.heap.objs.size = none := I.hok.fresh (Nat.le_refl _)
  refine ⟨.ref s.heap.objs.size, _, ?_, rfl, q _ hn⟩
  refine I.laid (fun b o e => Heap.get?_push_of_some _ e) (Nat.le_refl _) ⟨by simp only [List.length_cons, List.length_nil]; rw [sizeLine_eq]; decide, [.int (i / j) s.toks, .int (i % j) (s.toks + 1)], .cons ⟨_, rfl⟩ (.cons ⟨_, rfl⟩ .nil), ?_⟩
  exact ⟨_, Heap.get?_push_size s.heap rfl, rfl, 0, rfl⟩
end
end L2

namespace L2
open PySem PySem.Spec PyProof.Rows

/-! ### an instance, its attributes a map -/
structure ObjM (h : Heap) (x dx C : Addr) (mA : Str → Option Value) : Prop where
  obj : h.get? x = some (PySem.W.instObj C dx)
  ns : h.Ns1 dx mA
  ne : dx ≠ x

theorem lookIn_ns {h : Heap} {dx : Addr} {mA : Str → Option Value} (n : h.Ns1 dx mA) : ∃ od, h.get? dx = some od ∧ ∀ name, PySem.W.lookIn name od = some (mA name) := by
  obtain ⟨o, es, ep, ho, hd, hk, _, hm⟩ := n
  refine ⟨o, ho, fun name => ?_⟩
  have e := hm name
  unfold nsFind findBy at e
  rw [← Array.find?_toList] at e
  unfold PySem.W.lookIn
  rw [hd]
  dsimp only
  split
  · rename_i y q
    rw [q] at e
    exact congrArg some e
  · rename_i q
    rw [q] at e
    have a : es.toList.any (·.refKey) = false := by
      rw [List.any_eq_false]
      intro y hy
      obtain ⟨z, t, hkey⟩ := hk y (Array.mem_toList_iff.mp hy)
      simp [DictEntry.refKey, hkey]
    have a' : ¬ es.toList.any (·.refKey) = true := by rw [a]; exact Bool.false_ne_true
    rw [if_neg a']
    exact congrArg some e

theorem ObjM.look {h : Heap} {x dx C : Addr} {mA : Str → Option Value} (I : ObjM h x dx C mA) : ∃ od, PySem.W.InstAt h x (PySem.W.instObj C dx) C (some od) ∧ ∀ name, PySem.W.lookIn name od = some (mA name) :=
  let ⟨od, ho, hl⟩ := lookIn_ns I.ns
  ⟨od, ⟨I.obj, rfl, rfl, ho⟩, hl⟩

section
variable {prog : Program} {w : World} {A : Around} {E : Value → Shared → Prop} {s : Shared} {K : PySem.W.Frag} {x dx C f : Addr} {mA : Str → Option Value} {name : Str} {v : Value}

theorem get_map {expr : Bool} {Q : Value → Shared → Prop} (X : K.In s.heap) (I : ObjM s.heap x dx C mA) (hg : PySem.W.plainGet K C name = true) (hh : PySem.W.hasDictIn K C = true)
    (ha : PySem.W.findIn K (.ref C) name = some none) (hv : mA name = some v) (hv' : PySem.W.handedIn v = true) (h : Q v { s with toks := s.toks + 1 }) :
    wpAny (model prog w) A (getAttr (.ref x) name expr) Q E s := by
  obtain ⟨od, J, hl⟩ := I.look
  exact PySem.W.get_value X J (PySem.W.plainGet_of hg).1 (PySem.W.findObj_own hh ha rfl (by rw [hl, hv])) hv' h

theorem get_const {expr : Bool} {a : Value} {Q : Value → Shared → Prop} (X : K.In s.heap) (I : ObjM s.heap x dx C mA) (hg : PySem.W.plainGet K C name = true) (hh : PySem.W.hasDictIn K C = true)
    (ha : PySem.W.findIn K (.ref C) name = some (some a)) (hn : PySem.W.specialIn K a "__get__" = some none) (hc : PySem.W.copiedNames.contains name = false) (hv : mA name = none) (hv' : PySem.W.handedIn a = true)
    (h : Q a { s with toks := s.toks + 1 }) : wpAny (model prog w) A (getAttr (.ref x) name expr) Q E s := by
  obtain ⟨od, J, hl⟩ := I.look
  exact PySem.W.get_value X J (PySem.W.plainGet_of hg).1 (PySem.W.findObj_cls hh ha hn hv' hc (by rw [hl, hv])) hv' h

theorem get_meth {pl : Sem Bool} {Q : Value × List Value → Shared → Prop} (X : K.In s.heap) (I : ObjM s.heap x dx C mA) (hg : PySem.W.plainGet K C name = true)
    (hf : PySem.W.findIn K (.ref C) name = some (some (.ref f))) (ht : PySem.W.isFn K (.ref f) = true) (hv : mA name = none) (h : Q (.ref f, [.ref x]) s) :
    wpAny (model prog w) A (getMethod (.ref x) name pl) Q E s := by
  obtain ⟨od, J, hl⟩ := I.look
  exact PySem.W.method_fn X J (PySem.W.plainGet_of hg).1 (PySem.W.plainGet_of hg).2 hf (beq_iff_eq.mp ht) (by show (PySem.W.lookIn name od).map (·.isSome) = some false; rw [hl, hv]; rfl) h

theorem set_map {ns : List Str} {Q : Unit → Shared → Prop} (X : K.In s.heap) (I : ObjM s.heap x dx C mA)
    (hs : PySem.W.findIn K (.ref C) "__setattr__" = some (some (.builtin "object.__setattr__"))) (hp : PySem.W.plainOver K C = true) (ht : PySem.W.takerIn K C name = some none) (hh : PySem.W.hasDictIn K C = true)
    (hw : PySem.Within mA ns) (hsz : ns.length ≤ sizeLine)
    (h : ∀ h', ObjM h' x dx C (fun y => if y = name then some v else mA y) → Heap.SameBut dx s.heap h' → Q () { s with heap := h', toks := s.toks + 2 }) :
    wpAny (model prog w) A (setAttr (.ref x) name v) Q E s := by
  obtain ⟨od, J, hl⟩ := I.look
  refine PySem.W.set_plain X J hs (PySem.W.osa_open (s := { s with toks := s.toks + 1 }) (r := none) X J hp ht fun b => ?_)
  obtain ⟨cd, hc, hd'⟩ := PySem.W.any_some hh
  have hx : s.heap.get? x = some ⟨.ref C, some dx, .plain, #[]⟩ := I.obj
  refine wpAny_bind (wpAny_pure (wpAny_bind (wpAny_bind (wpAny_loadPart hx (wpAny_bind (PySem.W.Looks.here (s := { s with toks := s.toks + 1 }) (PySem.W.looks_clsIn X hc) ?_))))))
  rw [hd']
  refine wpAny_pure (a := some dx) (wpAny_bind (wpAny_pure (wpAny_bind ?_)))
  refine wpAny_nsSet1 (s := { s with toks := s.toks + 1 }) I.ns fun h' hn2 hs2 => ?_
  obtain ⟨oD, esD, epD, hoD, hdD, hcD⟩ := hn2.count (PySem.Within.cons name v hw)
  refine wpAny_bind (wpAny_lookBehind hoD (by rw [hdD]; exact pastItsLine_dict (Nat.le_trans hcD (by rw [List.length_cons]; omega))) ?_)
  exact wpAny_pure (h _ ⟨(hs2.2 _ (Ne.symm I.ne)).trans I.obj, hn2, I.ne⟩ hs2)

/-- C(..): the dict at the heap's end, the instance behind it; then its __init__ -/
theorem make_map {R : Result → Shared → Prop} {vs : List Value} {kw : List (Str × Value)} (X : K.In s.heap) (hm : PySem.W.makesIn K C = true)
    (hi : PySem.W.findIn K (.ref C) "__init__" = some (some (.ref f))) (hf : PySem.W.typeIn K (.ref f) = some (.type "function"))
    (h : codeAny (model prog w) (A.under (.builtin "type.__call__" ⟨.ref C :: vs, kw⟩)) (.call (.ref f) ⟨.ref (s.heap.objs.size + 1) :: vs, kw⟩) (PySem.W.InitBack (s.heap.objs.size + 1) R)
      { s with heap := (s.heap.push PySem.W.emptyDict).push (PySem.W.instObj C s.heap.objs.size) }) :
    codeAny (model prog w) A (.call (.ref C) ⟨vs, kw⟩) R s := by
  obtain ⟨hh, g, d, t, os⟩ := s
  exact PySem.W.make_core (PySem.W.makes_of X hm) (PySem.W.looks_findIn X hi) (fun self => PySem.W.bind_fn X self hf) (.inl rfl) h
/-- C() where there is no __init__ but object's -/
theorem make_map0 {R : Result → Shared → Prop} (X : K.In s.heap) (hm : PySem.W.makesIn K C = true)
    (hi : PySem.W.findIn K (.ref C) "__init__" = some (some (.builtin "object.__init__")))
    (hb : ∀ self, PySem.W.Looks (model prog w) s.heap (bindSpecial (.builtin "object.__init__") self) (.builtin "object.__init__", [self]))
    (h : codeAny (model prog w) (A.under (.builtin "type.__call__" ⟨[.ref C], []⟩)) (.call (.builtin "object.__init__") ⟨[.ref (s.heap.objs.size + 1)], []⟩) (PySem.W.InitBack (s.heap.objs.size + 1) R)
      { s with heap := (s.heap.push PySem.W.emptyDict).push (PySem.W.instObj C s.heap.objs.size) }) :
    codeAny (model prog w) A (.call (.ref C) ⟨[], []⟩) R s := by
  obtain ⟨hh, g, d, t, os⟩ := s
  exact PySem.W.make_core (PySem.W.makes_of X hm) (PySem.W.looks_findIn X hi) hb (.inr ⟨rfl, rfl⟩) h
end

/-! ### the attributes as a list of pairs -/
def putF (f : Str) (v : V) : List (Str × V) → List (Str × V)
  | [] => [(f, v)]
  | (g, x) :: r => if g = f then (g, v) :: r else (g, x) :: putF f v r
theorem lookup_putF (f g : Str) (v : V) : ∀ fs : List (Str × V), (putF f v fs).lookup g = if g = f then some v else fs.lookup g
  | [] => by
    show List.lookup g [(f, v)] = _
    by_cases h : g = f
    · have hb : (g == f) = true := beq_iff_eq.mpr h
      simp only [List.lookup, hb, if_pos h]
    · have hb : (g == f) = false := beq_eq_false_iff_ne.mpr h
      simp only [List.lookup, hb, if_neg h]
  | (k, x) :: r => by
    have ih := lookup_putF f g v r
    rw [show putF f v ((k, x) :: r) = (if k = f then (k, v) :: r else (k, x) :: putF f v r) from rfl]
    by_cases hk : k = f
    · rw [if_pos hk]
      by_cases h : g = k
      · have hb : (g == k) = true := beq_iff_eq.mpr h
        simp only [List.lookup, hb, if_pos (h.trans hk)]
      · have hb : (g == k) = false := beq_eq_false_iff_ne.mpr h
        simp only [List.lookup, hb, if_neg (fun e : g = f => h (e.trans hk.symm))]
    · rw [if_neg hk]
      by_cases h : g = k
      · have hb : (g == k) = true := beq_iff_eq.mpr h
        simp only [List.lookup, hb, if_neg (fun e : g = f => hk (h.symm.trans e))]
      · have hb : (g == k) = false := beq_eq_false_iff_ne.mpr h
        simp only [List.lookup, hb]
        exact ih
theorem keys_putF (f : Str) (v : V) : ∀ fs : List (Str × V), f ∈ (putF f v fs).map (·.1) ∧ ∀ g, g ∈ fs.map (·.1) → g ∈ (putF f v fs).map (·.1)
  | [] => ⟨by simp [putF], fun g h => by simp at h⟩
  | (k, x) :: r => by
    obtain ⟨i1, i2⟩ := keys_putF f v r
    rw [show putF f v ((k, x) :: r) = (if k = f then (k, v) :: r else (k, x) :: putF f v r) from rfl]
    by_cases hk : k = f
    · rw [if_pos hk]
      subst hk
      exact ⟨by simp, fun g h => by simpa using h⟩
    · rw [if_neg hk]
      refine ⟨?_, fun g h => ?_⟩
      · rw [List.map_cons]
        exact List.mem_cons_of_mem _ i1
      · rw [List.map_cons] at h ⊢
        rcases List.mem_cons.mp h with e | e
        · exact List.mem_cons.mpr (.inl e)
        · exact List.mem_cons_of_mem _ (i2 g e)
theorem length_putF (f : Str) (v : V) : ∀ fs : List (Str × V), (putF f v fs).length ≤ fs.length + 1
  | [] => by simp [putF]
  | (k, x) :: r => by
    have ih := length_putF f v r
    rw [show putF f v ((k, x) :: r) = (if k = f then (k, v) :: r else (k, x) :: putF f v r) from rfl]
    by_cases hk : k = f
    · rw [if_pos hk, List.length_cons, List.length_cons]; omega
    · rw [if_neg hk, List.length_cons, List.length_cons]; omega

theorem RelO.some_of {v : V} {o : Option Value} (r : RelO (some v) o) : ∃ u, o = some u ∧ RelV v u := by
  cases o with
  | none => exact (show False from r).elim
  | some u => exact ⟨u, rfl, r⟩
theorem RelO.none_of {o : Option Value} (r : RelO none o) : o = none := by
  cases o with
  | none => rfl
  | some u => exact (show False from r).elim
theorem handed_of {v : V} {u : Value} (r : RelV v u) : PySem.W.handedIn u = true := by
  cases v with
  | non => cases (show u = Value.none from r); rfl
  | bl b => cases (show u = Value.bool b from r); rfl
  | int i => obtain ⟨t, e⟩ := (show ∃ t, u = Value.int i t from r); cases e; rfl
  | str x => obtain ⟨t, e⟩ := (show ∃ t, u = Value.str x t from r); cases e; rfl
  | byt b => obtain ⟨t, e⟩ := (show ∃ t, u = Value.bytes b t from r); cases e; rfl
  | flt b => obtain ⟨t, e⟩ := (show ∃ t, u = Value.float b t from r); cases e; rfl
  | ref a => cases (show u = Value.ref a from r); rfl
  | ty n => cases (show u = Value.type n from r); rfl

section
variable {P : Program} {w : World} {H H' : Hp} {h h' : Heap} {a C dx : Addr} {fs fs' : List (Str × V)}
theorem ins_get (hok : HOk P w H h) (e : H a = some (.ins C dx fs)) : ∃ mA, ObjM h a dx C mA ∧ (∀ f, RelO (fs.lookup f) (mA f)) ∧ PySem.Within mA (fs.map (·.1)) ∧ fs.length ≤ 1000 ∧ H dx = some (.own a) := by
  obtain ⟨d, z, ne, ob, mA, n, r, q⟩ := (show ObjOk P w H h a (.ins C dx fs) from hok a _ e)
  exact ⟨mA, ⟨ob, n, ne⟩, r, q, z, d⟩
end

/-! ### what of the text a class must have -/
structure Cls (K : PySem.W.Frag) (C : Addr) : Prop where
  pg : PySem.W.plainGet K C Str.empty = true
  hd : PySem.W.hasDictIn K C = true
  po : PySem.W.plainOver K C = true
  sa : PySem.W.findIn K (.ref C) "__setattr__" = some (some (.builtin "object.__setattr__"))
theorem Cls.get {K : PySem.W.Frag} {C : Addr} (c : Cls K C) (f : Str) : PySem.W.plainGet K C f = true := c.pg
/-- no class of it has the name -/
def NoAttr (K : PySem.W.Frag) (C : Addr) (f : Str) : Prop := PySem.W.findIn K (.ref C) f = some none
theorem NoAttr.taker {K : PySem.W.Frag} {C : Addr} {f : Str} (n : NoAttr K C f) : PySem.W.takerIn K C f = some none := by
  unfold PySem.W.takerIn
  rw [show PySem.W.findIn K (.ref C) f = some none from n]
  rfl
/-- a constant of the class -/
structure Con (K : PySem.W.Frag) (C : Addr) (f : Str) (v : V) (u : Value) : Prop where
  at_ : PySem.W.findIn K (.ref C) f = some (some u)
  rel : RelV v u
  get : PySem.W.specialIn K u "__get__" = some none
  cp : PySem.W.copiedNames.contains f = false
/-- a method: a plain def of the class or of one above it -/
structure Meth (K : PySem.W.Frag) (C : Addr) (m : Str) (f : Addr) : Prop where
  at_ : PySem.W.findIn K (.ref C) m = some (some (.ref f))
  fn : PySem.W.isFn K (.ref f) = true
  kp : PySem.W.keepIn K (.ref f) = true

section
variable {X : Cx} {pins : List (Addr × Obj)} {σ : St} {H : Hp} {s : Shared} {a C dx : Addr} {fs : List (Str × V)} {f : Str} {v : V} {A : Around} {E : Value → Shared → Prop}

theorem getattr_ok {b : Bool} {Q : Value → Shared → Prop} (I : Inv X pins σ H s) (e : H a = some (.ins C dx fs)) (c : Cls X.K C) (n : NoAttr X.K C f) (l : fs.lookup f = some v)
    (h : ∀ u s', Inv X pins σ H s' → RelV v u → Q u s') : wpAny (model X.prog X.w) A (getAttr (.ref a) f b) Q E s := by
  obtain ⟨mA, O, r, _, _, _⟩ := ins_get I.hok e
  obtain ⟨u, hu, ru⟩ := RelO.some_of (v := v) (o := mA f) (by rw [← l]; exact r f)
  exact get_map I.kIn O (c.get f) c.hd n hu (handed_of ru) (h u _ (I.tok _) ru)

theorem getcon_ok {b : Bool} {u : Value} {Q : Value → Shared → Prop} (I : Inv X pins σ H s) (e : H a = some (.ins C dx fs)) (c : Cls X.K C) (k : Con X.K C f v u) (l : fs.lookup f = none)
    (h : ∀ s', Inv X pins σ H s' → Q u s') : wpAny (model X.prog X.w) A (getAttr (.ref a) f b) Q E s := by
  obtain ⟨mA, O, r, _, _, _⟩ := ins_get I.hok e
  have hn : mA f = none := RelO.none_of (by rw [← l]; exact r f)
  exact get_const I.kIn O (c.get f) c.hd k.at_ k.get k.cp hn (handed_of k.rel) (h _ (I.tok _))

theorem getmeth_ok {m : Str} {g : Addr} {pl : Sem Bool} {Q : Value × List Value → Shared → Prop} (I : Inv X pins σ H s) (e : H a = some (.ins C dx fs)) (c : Cls X.K C) (k : Meth X.K C m g) (l : fs.lookup m = none)
    (h : Q (.ref g, [.ref a]) s) : wpAny (model X.prog X.w) A (getMethod (.ref a) m pl) Q E s := by
  obtain ⟨mA, O, r, _, _, _⟩ := ins_get I.hok e
  have hn : mA m = none := RelO.none_of (by rw [← l]; exact r m)
  exact get_meth I.kIn O (c.get m) k.at_ k.fn hn h

theorem setattr_ok {y : V} {u : Value} {Q : Unit → Shared → Prop} (I : Inv X pins σ H s) (e : H a = some (.ins C dx fs)) (c : Cls X.K C) (n : NoAttr X.K C f) (hl : fs.length < 1000) (ry : RelV y u)
    (h : ∀ s', Inv X pins σ (upd H a (.ins C dx (putF f y fs))) s' → Q () s') : wpAny (model X.prog X.w) A (setAttr (.ref a) f u) Q E s := by
  obtain ⟨mA, O, r, wi, _, ho⟩ := ins_get I.hok e
  have hz : (fs.map (·.1)).length ≤ sizeLine := by rw [List.length_map, sizeLine_eq]; omega
  refine set_map I.kIn O c.sa c.po n.taker c.hd wi hz fun h' O' sb => h _ ?_
  have hd : ∃ o, h'.get? dx = some o := let ⟨o, _, _, e', _⟩ := O'.ns; ⟨o, e'⟩
  refine I.write (x := a) (e := dx) (by rw [e]; exact True.intro) (.inr ho) (fun b q hb z => (sb.2 b hb).trans z) hd ?_
  refine ⟨by rw [upd_ne O.ne]; exact ho, ?_, O.ne, O'.obj, _, O'.ns, fun g => ?_, fun g hg => ?_⟩
  · have := length_putF f y fs; omega
  · show RelO ((putF f y fs).lookup g) (if g = f then some u else mA g)
    rw [lookup_putF]
    by_cases q : g = f
    · rw [if_pos q, if_pos q]; exact ry
    · rw [if_neg q, if_neg q]; exact r g
  · by_cases q : g = f
    · rw [q]; exact (keys_putF f y fs).1
    · refine (keys_putF f y fs).2 g (wi g fun z => hg ?_)
      show (if g = f then some u else mA g) = none
      rw [if_neg q]; exact z

/-- a new instance, tracked, without attributes -/
theorem Inv.made (I : Inv X pins σ H s) : Inv X pins σ (upd (upd H s.heap.objs.size (.own (s.heap.objs.size + 1))) (s.heap.objs.size + 1) (.ins C s.heap.objs.size []))
    { s with heap := (s.heap.push PySem.W.emptyDict).push (PySem.W.instObj C s.heap.objs.size) } := by
  have e1 : (s.heap.push PySem.W.emptyDict).get? s.heap.objs.size = some PySem.W.emptyDict := Heap.get?_push_size s.heap rfl
  have e2 : ((s.heap.push PySem.W.emptyDict).push (PySem.W.instObj C s.heap.objs.size)).get? (s.heap.objs.size + 1) = some (PySem.W.instObj C s.heap.objs.size) := by
    have := Heap.get?_push_size (s.heap.push PySem.W.emptyDict) (o := PySem.W.instObj C s.heap.objs.size) rfl
    rwa [Heap.size_push] at this
  have e3 : (s.heap.push PySem.W.emptyDict).Ns s.heap.objs.size (fun _ => none) := ⟨PySem.W.emptyDict, #[], _, e1, rfl, (fun e he => absurd he (by simp)), fun _ => rfl⟩
  have I1 := I.laid (a := s.heap.objs.size) (o := .own (s.heap.objs.size + 1)) (h' := s.heap.push PySem.W.emptyDict) (t' := s.toks) (fun b u q => Heap.get?_push_of_some _ q) (Nat.le_refl _) ⟨_, e1⟩
  refine I1.laid (a := s.heap.objs.size + 1) (o := .ins C s.heap.objs.size []) (t' := s.toks) (fun b u q => Heap.get?_push_of_some _ q) (Nat.le_of_eq (Heap.size_push _ _)) ?_
  have ne : s.heap.objs.size ≠ s.heap.objs.size + 1 := Nat.ne_of_lt (Nat.lt_succ_self _)
  refine ⟨by rw [upd_ne ne, upd_same], Nat.zero_le _, ne, e2, fun _ => none, (Heap.Ns1.of_empty e3).at fun o q => Heap.get?_push_of_some _ q, fun _ => True.intro, fun y hy => absurd rfl hy⟩

/-- e.f where nothing but the object is asked: through attributeBase (super) and the last hold -/
theorem attr_of {prog : Program} {w : World} {env : Env} {e : Expr} {f : Str} {pos : Pos} {s : Shared} {Q : Value → Shared → Prop} (hb : attributeBase e f env (eval e env) = eval e env)
    (h : wpAny (model prog w) A (eval e env) (fun o s₁ => wpAny (model prog w) A (getAttr o f true) Q E s₁) E s) : wpAny (model prog w) A (eval (.Attribute e f pos) env) Q E s :=
  Attribute_any_ h (by rw [arm_eval_Attribute, hb])
end

/-! ### readings and rules -/
/-- e.f, an attribute of the instance -/
def tFld (K : PySem.W.Frag) (ta : TE) (f : Str) : TE := fun σ H Q => ta σ H fun x H1 => ∃ a C dx fs v, x = .ref a ∧ H1 a = some (.ins C dx fs) ∧ Cls K C ∧ NoAttr K C f ∧ fs.lookup f = some v ∧ Q v H1
/-- e.f, a constant of the class -/
def tCon (K : PySem.W.Frag) (ta : TE) (f : Str) : TE := fun σ H Q => ta σ H fun x H1 => ∃ a C dx fs v u, x = .ref a ∧ H1 a = some (.ins C dx fs) ∧ Cls K C ∧ Con K C f v u ∧ fs.lookup f = none ∧ Q v H1
/-- e.f = value -/
def sFld (K : PySem.W.Frag) (ta tv : TE) (f : Str) : TS := fun D σ H => tv σ H fun y H1 => ta σ H1 fun x H2 => ∃ a C dx fs, x = .ref a ∧ H2 a = some (.ins C dx fs) ∧ Cls K C ∧ NoAttr K C f ∧ fs.length < 1000 ∧
  D.nx σ (upd H2 a (.ins C dx (putF f y fs)))
/-- an augmented operator on two values -/
def InOp (X : Cx) (op : Operator) (rd : V → V → Hp → VK → Prop) : Prop :=
  ∀ (pins : List (Addr × Obj)) (s : Shared) (σ : St) (H : Hp) (x y : V) (u v : Value) (Q : VK), Inv X pins σ H s → RelV x u → RelV y v → rd x y H Q → wpAny (model X.prog X.w) X.A (inplaceOp op u v) (EP X pins σ Q) X.xe s
/-- e.f op= value -/
def sFldAug (K : PySem.W.Frag) (ta tv : TE) (rd : V → V → Hp → VK → Prop) (f : Str) : TS := fun D σ H => ta σ H fun x H1 => ∃ a C dx fs v, x = .ref a ∧ H1 a = some (.ins C dx fs) ∧ Cls K C ∧ NoAttr K C f ∧ fs.lookup f = some v ∧
  tv σ H1 fun y H2 => rd v y H2 fun z H3 => ∃ dx' fs', H3 a = some (.ins C dx' fs') ∧ fs'.length < 1000 ∧ D.nx σ (upd H3 a (.ins C dx' (putF f z fs')))

section
variable {X : Cx} {o e value : Expr} {f : Str} {pos pos' tpos : Pos} {ta tv : TE}
theorem pe_fld (he : PE X e ta) (hb : attributeBase e f X.env (eval e X.env) = eval e X.env) : PE X (.Attribute e f pos) (tFld X.K ta f) := by
  intro pins s σ H Q I h
  refine attr_of hb (thn (he pins s σ H _ I h) fun u s1 ⟨x, H1, I1, rx, a, C, dx, fs, v, ex, ea, c, n, l, q⟩ => ?_)
  subst ex
  obtain rfl : u = Value.ref a := rx
  exact getattr_ok I1 ea c n l fun u' s2 I2 ru => ⟨v, H1, I2, ru, q⟩
theorem pe_con (he : PE X e ta) (hb : attributeBase e f X.env (eval e X.env) = eval e X.env) : PE X (.Attribute e f pos) (tCon X.K ta f) := by
  intro pins s σ H Q I h
  refine attr_of hb (thn (he pins s σ H _ I h) fun u s1 ⟨x, H1, I1, rx, a, C, dx, fs, v, u0, ex, ea, c, k, l, q⟩ => ?_)
  subst ex
  obtain rfl : u = Value.ref a := rx
  exact getcon_ok I1 ea c k l fun s2 I2 => ⟨v, H1, I2, k.rel, q⟩
theorem ps_fld (ha : PE X o ta) (hv : PE X value tv) (hs : swapsWith value (some (.Attribute o f pos')) pos.line X.env = pure false) : PS X (.Assign [.Attribute o f pos'] value pos) (sFld X.K ta tv f) := by
  intro pins s σ H D I h
  refine plainObj_wpAny_Assign_Attribute (thn (hv pins s σ H _ I h) fun u s1 ⟨y, H1, I1, ry, q⟩ => thn (ha pins s1 σ H1 _ I1 q) fun ov s2 ⟨x, H2, I2, rx, a, C, dx, fs, ex, ea, c, n, l, q2⟩ => ?_) hs
  subst ex
  obtain rfl : ov = Value.ref a := rx
  exact setattr_ok I2 ea c n l ry fun s3 I3 => ⟨σ, _, I3, q2⟩
theorem ps_fldaug {op : Operator} {rd : V → V → Hp → VK → Prop} (ha : PE X o ta) (hv : PE X value tv) (hop : InOp X op rd) : PS X (.AugAssign (.Attribute o f tpos) op value pos) (sFldAug X.K ta tv rd f) := by
  intro pins s σ H D I h
  refine wpAny_AugAssign_AttributeAny (thn (ha pins s σ H _ I h) fun ov s1 ⟨x, H1, I1, rx, a, C, dx, fs, v, ex, ea, c, n, l, q⟩ => ?_)
  subst ex
  obtain rfl : ov = Value.ref a := rx
  refine getattr_ok I1 ea c n l fun u s2 I2 ru => thn (hv pins s2 σ H1 _ I2 q) fun w3 s3 ⟨y, H2, I3, ry, q3⟩ => thn (hop pins s3 σ H2 v y u w3 _ I3 ru ry q3) fun w4 s4 ⟨z, H3, I4, rz, dx', fs', ea', l', q4⟩ => ?_
  exact setattr_ok I4 ea' c n l' rz fun s5 I5 => ⟨σ, _, I5, q4⟩
def rAdd : V → V → Hp → VK → Prop := fun x y H Q => ∃ i j, x = .int i ∧ y = .int j ∧ Q (.int (i + j)) H
def rSub : V → V → Hp → VK → Prop := fun x y H Q => ∃ i j, x = .int i ∧ y = .int j ∧ Q (.int (i - j)) H
theorem in_add : InOp X .Add rAdd := by
  rintro pins s σ H x y u v Q I rx ry ⟨i, j, rfl, rfl, q⟩
  obtain ⟨t, rfl⟩ := (show ∃ t, u = Value.int i t from rx)
  obtain ⟨t', rfl⟩ := (show ∃ t', v = Value.int j t' from ry)
  exact PyProof.Rows.iadd_int ⟨.int (i + j), H, I.tok _, ⟨_, rfl⟩, q⟩
theorem in_sub : InOp X .Sub rSub := by
  rintro pins s σ H x y u v Q I rx ry ⟨i, j, rfl, rfl, q⟩
  obtain ⟨t, rfl⟩ := (show ∃ t, u = Value.int i t from rx)
  obtain ⟨t', rfl⟩ := (show ∃ t', v = Value.int j t' from ry)
  exact PyProof.Rows.isub_int ⟨.int (i - j), H, I.tok _, ⟨_, rfl⟩, q⟩

/-- what is between an instance and its method: the tree of a method call -/
theorem methcall_of {pl : Sem Bool} {m : Str} {apos : Pos} {args : List Expr} {pins : List (Addr × Obj)} {s : Shared} {σ : St} {H : Hp} {Q : Value → Shared → Prop} {te : TE} (he : PE X e te) (I : Inv X pins σ H s)
    (h : te σ H fun x H1 => ∃ a C dx fs g, x = .ref a ∧ H1 a = some (.ins C dx fs) ∧ Cls X.K C ∧ Meth X.K C m g ∧ fs.lookup m = none ∧
      ∀ s1, Inv X pins σ H1 s1 → wpAny (model X.prog X.w) X.A (callWith pos (.ref g) [.ref a] (backTo pos (starEach args X.env)) (backToKw pos (keywordEach [] X.env))) Q X.xe s1)
    (ht : eval (.Call (.Attribute e m apos) args [] pos) X.env = (do
      let ov ← eval e X.env
      standAt apos.atName
      let (f, first) ← holding [ov] (getMethod ov m pl)
      callWith pos f first (backTo pos (starEach args X.env)) (backToKw pos (keywordEach [] X.env)))) :
    wpAny (model X.prog X.w) X.A (eval (.Call (.Attribute e m apos) args [] pos) X.env) Q X.xe s := by
  refine PySem.W.methodCall_KW (pl := pl) (thn (he pins s σ H _ I h) fun u s1 ⟨x, H1, I1, rx, a, C, dx, fs, g, ex, ea, c, k, l, q⟩ => ?_) ht
  subst ex
  obtain rfl : u = Value.ref a := rx
  exact getmeth_ok I1 ea c k l (q s1 I1)
end

/-! ### isinstance -/
section
variable {X : Cx} {pins : List (Addr × Obj)} {σ : St} {H : Hp} {s : Shared} {A : Around} {E : Value → Shared → Prop} {Q : Value → Shared → Prop} {c : Value} {b : Bool}
/-- the type of a value, as the fragment's deciders take it; for an instance its class -/
inductive TyOf (K : PySem.W.Frag) (H : Hp) : V → Value → Prop where
  | non : TyOf K H .non (.type "NoneType")
  | bl (x : Bool) : TyOf K H (.bl x) (.type "bool")
  | int (i : Int) : TyOf K H (.int i) (.type "int")
  | str (x : Str) : TyOf K H (.str x) (.type "str")
  | flt (x : UInt64) : TyOf K H (.flt x) (.type "float")
  | lst {a : Addr} {xs : List V} (e : H a = some (.lst xs)) : TyOf K H (.ref a) (.type "list")
  | frz {a : Addr} {o : Obj} {xs : List V} (e : H a = some (.frz o (.lst xs))) : TyOf K H (.ref a) (.type "list")
  | tup {a : Addr} {xs : List V} (e : H a = some (.tup xs)) : TyOf K H (.ref a) (.type "tuple")
  | dK {a : Addr} {kvs : List (Key × V)} (e : H a = some (.dK kvs)) : TyOf K H (.ref a) (.type "dict")
  | dT {a : Addr} {kvs : List (List Key × V)} (e : H a = some (.dT kvs)) : TyOf K H (.ref a) (.type "dict")
  | ins {a C dx : Addr} {fs : List (Str × V)} (e : H a = some (.ins C dx fs)) (cl : Cls K C) (ha : PySem.W.findIn K (.ref C) "__class__" = some (some (.builtin "object.__class__")))
      (hn : PySem.W.specialIn K (.builtin "object.__class__") "__get__" = some (some (.builtin "getset_descriptor.__get__"))) (htk : PySem.W.takesIn K (.builtin "object.__class__") = some true)
      (hm : PySem.W.mroIn K C (.type "object") = some true) : TyOf K H (.ref a) (.ref C)
/-- isinstance(x, c) for one class c, a built-in or an own one: kitOne's answer -/
theorem isinst_ok {x : V} {u t : Value} (I : Inv X pins σ H s) (rx : RelV x u) (ty : TyOf X.K H x t) (e : PySem.W.kitOne X.K t c = some b) (h : ∀ tk, Q (.bool b) { s with toks := tk }) :
    wpAny (model X.prog X.w) A (call (.builtin "isinstance") [u, c]) Q E s := by
  cases ty with
  | non => cases (show u = Value.none from rx); exact PySem.W.kia_one PySem.W.kitx_none I.kIn True.intro e (fun z => nomatch z) h
  | bl y => cases (show u = Value.bool y from rx); exact PySem.W.kia_one PySem.W.kitx_bool I.kIn True.intro e (fun z => nomatch z) h
  | int i => obtain ⟨t, q⟩ := (show ∃ t, u = Value.int i t from rx); cases q; exact PySem.W.kia_one PySem.W.kitx_int I.kIn True.intro e (fun z => nomatch z) h
  | str y => obtain ⟨t, q⟩ := (show ∃ t, u = Value.str y t from rx); cases q; exact PySem.W.kia_one PySem.W.kitx_str I.kIn True.intro e (fun z => nomatch z) h
  | flt y => obtain ⟨t, q⟩ := (show ∃ t, u = Value.float y t from rx); cases q; exact PySem.W.kia_one PySem.W.kitx_float I.kIn True.intro e (fun z => nomatch z) h
  | @lst a xs ea =>
    cases (show u = Value.ref a from rx)
    obtain ⟨_, _, n, _, h1⟩ := (show ObjOk X.prog X.w H s.heap a (.lst xs) from I.hok a _ ea)
    exact PySem.W.kia_one PySem.W.kitx_list I.kIn ⟨_, h1, rfl⟩ e (fun z => nomatch z) h
  | @frz a ob xs ea =>
    cases (show u = Value.ref a from rx)
    obtain ⟨_, _, _, n, _, h1⟩ := (show ObjOk X.prog X.w H s.heap a (.frz ob (.lst xs)) from I.hok a _ ea)
    exact PySem.W.kia_one PySem.W.kitx_list I.kIn ⟨_, h1, rfl⟩ e (fun z => nomatch z) h
  | @tup a xs ea =>
    cases (show u = Value.ref a from rx)
    obtain ⟨_, _, _, p⟩ := (show ObjOk X.prog X.w H s.heap a (.tup xs) from I.hok a _ ea)
    obtain ⟨o, h1, h2, _⟩ := p
    exact PySem.W.kia_one PySem.W.kitx_tuple I.kIn ⟨o, h1, h2⟩ e (fun z => nomatch z) h
  | @dK a kvs ea =>
    cases (show u = Value.ref a from rx)
    obtain ⟨_, _, vs, _, p⟩ := (show ObjOk X.prog X.w H s.heap a (.dK kvs) from I.hok a _ ea)
    obtain ⟨o, es, ep, h1, h2, _⟩ := p
    exact PySem.W.kia_one PySem.W.kitx_dict I.kIn ⟨o, h1, h2.1⟩ e (fun z => nomatch z) h
  | @dT a kvs ea =>
    cases (show u = Value.ref a from rx)
    obtain ⟨_, _, xs, _, o, es, ep, h1, h2, _⟩ := (show ObjOk X.prog X.w H s.heap a (.dT kvs) from I.hok a _ ea)
    exact PySem.W.kia_one PySem.W.kitx_dict I.kIn ⟨o, h1, h2.1⟩ e (fun z => nomatch z) h
  | @ins a C dx fs ea cl ha hn htk hm =>
    cases (show u = Value.ref a from rx)
    obtain ⟨mA, O, _⟩ := ins_get I.hok ea
    obtain ⟨od, J, _⟩ := O.look
    exact PySem.W.kia_one (PySem.W.kitx_own (cl.get _) cl.hd ha hn htk hm) I.kIn J e (fun z => nomatch z) h
end
end L2

namespace L2
open PySem PySem.Spec PyProof.Rows

/-! ### room -/
structure Room (k : Nat) (A : Around) : Prop where
  hd : A.handled = none
  dp : A.depth + 3 * k + 5 < recursionLimit
  un : A.units + 16 * k + 200 < cLine
theorem Room.mono {j k : Nat} {A : Around} (r : Room k A) (h : j ≤ k) : Room j A := ⟨r.hd, by have := r.dp; omega, by have := r.un; omega⟩
theorem Room.deeper {k : Nat} {A : Around} (r : Room (k + 1) A) (env : Env) : Room k (A.deeper env) :=
  ⟨r.hd, by have := r.dp; show A.depth + 1 + 3 * k + 5 < _; omega, by have := r.un; show A.units + 3 + 16 * k + 200 < _; omega⟩
theorem Room.in1 {k : Nat} {A : Around} (r : Room (k + 1) A) : Room k A.in1 :=
  ⟨r.hd, by have := r.dp; show A.depth + 3 * k + 5 < _; omega, by have := r.un; show A.units + 1 + 16 * k + 200 < _; omega⟩
theorem make_depth {A : Around} {C : Addr} {us : List Value} {kw : List (Str × Value)} : (A.under (.builtin "type.__call__" ⟨.ref C :: us, kw⟩)).depth = A.depth + 1 := by
  first | rfl | simp [Around.under, Code.weight, Code.isCreation, Code.isGuard, Code.isCaller, Code.frames, Code.isFrame, guardIds]
theorem make_units {A : Around} {C : Addr} {us : List Value} {kw : List (Str × Value)} : (A.under (.builtin "type.__call__" ⟨.ref C :: us, kw⟩)).units = A.units + 1 := by
  first | rfl | simp [Around.under, Code.cUnits, Code.frames, Code.isFrame]
theorem Room.make {k : Nat} {A : Around} (r : Room (k + 1) A) (C : Addr) (us : List Value) (kw : List (Str × Value)) : Room k (A.under (.builtin "type.__call__" ⟨.ref C :: us, kw⟩)) :=
  ⟨r.hd, by have := r.dp; rw [make_depth]; omega, by have := r.un; rw [make_units]; omega⟩
theorem Room.depth {k : Nat} {A : Around} (r : Room k A) : A.depth < recursionLimit := by have := r.dp; omega
theorem Room.units {k : Nat} {A : Around} (r : Room k A) : A.units + 64 < cLine := by have := r.un; omega
theorem Room.units0 {k : Nat} {A : Around} (r : Room k A) : A.units < cLine := by have := r.un; omega

/-! ### argument lists and displays -/
def tNil : TA := fun _ H Q => Q [] H
def tCons (ta : TE) (tr : TA) : TA := fun σ H Q => ta σ H fun x H1 => tr σ H1 fun xs H2 => Q (x :: xs) H2
section
variable {X : Cx} {e : Expr} {es : List Expr} {te : TE} {t : TA} {pos : Pos}
theorem pa_nil : PA X [] tNil := fun _ _ _ _ H Q I h => Calls.spliced_nil ⟨[], H, I, .nil, h⟩
theorem pa_cons (ha : PE X e te) (hr : PA X es t) (hs : starEach (e :: es) X.env = (false, eval e X.env) :: starEach es X.env := by rfl) : PA X (e :: es) (tCons te t) := by
  intro pos pins s σ H Q I h
  rw [hs]
  show wpAny _ _ (spliced ((false, eval e X.env) :: backTo pos (starEach es X.env))) _ _ s
  refine Calls.spliced_cons (thn (ha pins s σ H _ I h) fun u s1 ⟨x, H1, I1, r1, q1⟩ => ?_)
  exact thn (hr pos pins s1 σ H1 _ I1 q1) fun us s2 ⟨xs, H2, I2, r2, q2⟩ => ⟨x :: xs, H2, I2, .cons r1 r2, q2⟩

/-- a tuple, a list of written items -/
def tTup (t : TA) : TE := fun σ H Q => t σ H fun xs H1 => xs.length ≤ sizeLine ∧ ∀ p, H1 p = none → Q (.ref p) (upd H1 p (.tup xs))
def tLst (t : TA) : TE := fun σ H Q => t σ H fun xs H1 => xs.length ≤ sizeLine ∧ ∀ p, H1 p = none → Q (.ref p) (upd H1 p (.lst xs))
theorem pe_tup {x1} (h : PA X es t) : PE X (.Tuple es x1 pos) (tTup t) := by
  intro pins s σ H Q I hq
  refine wpAny_Tuple_spliced (thn (h pos pins s σ H _ I hq) fun us s1 ⟨xs, H1, I1, r, z, q⟩ => ⟨by rw [← r.length]; exact z, ?_⟩)
  have hf : H1 s1.heap.objs.size = none := I1.hok.fresh (Nat.le_refl _)
  refine ⟨.ref s1.heap.objs.size, upd H1 s1.heap.objs.size (.tup xs), I1.laid (t' := s1.toks) (fun b u e => Heap.get?_push_of_some _ e) (Nat.le_refl _) ?_, rfl, q _ hf⟩
  exact ⟨z, us, r, ⟨_, Heap.get?_push_size _ rfl, rfl, _, rfl⟩⟩
theorem pe_lst (h : PA X es t) : PE X (.List es pos) (tLst t) := by
  intro pins s σ H Q I hq
  refine wpAny_List_spliced (thn (h pos pins s σ H _ I hq) fun us s1 ⟨xs, H1, I1, r, z, q⟩ => ⟨by rw [← r.length]; exact z, ?_⟩)
  have hf : H1 s1.heap.objs.size = none := I1.hok.fresh (Nat.le_refl _)
  refine ⟨.ref s1.heap.objs.size, upd H1 s1.heap.objs.size (.lst xs), I1.laid (t' := s1.toks) (fun b u e => Heap.get?_push_of_some _ e) (Nat.le_refl _) ?_, rfl, q _ hf⟩
  exact ⟨z, us, 0, r, Heap.get?_push_size _ rfl⟩
end

/-! ### what a def promises -/
/-- a def's promise: the bound arguments in the parameters' order, the heap, the wanted end, the wanted exception -/
abbrev Sp := List V → Hp → VK → XK → Prop
/-- how an exception lies behind a call (file 08 gives it): the callers' frames, abstract heap and state ahead of the call, the wish, the exception, the state -/
abbrev CXT := List Env → Hp → Shared → XK → Value → Shared → Prop

/-- the state at a call -/
structure Env0 (P : Program) (w : World) (K : PySem.W.Frag) (mg : Str → Option Value) (base : Heap) (A : Around) (outer : List Env) (s : Shared) (H : Hp) : Prop where
  frames : A.frames = some outer
  mod : Mod K mg base
  bs : ∀ b o, base.get? b = some o → s.heap.get? b = some o ∧ H b = none
  bsz : base.objs.size ≤ s.heap.objs.size
  funs : s.heap.FunFrames base outer
  frf : ∀ b ∈ frs outer, H b = none
  hok : HOk P w H s.heap
  bare : AllBare s.gens
/-- a call's end -/
def CE (outer : List Env) (P : Program) (w : World) (H : Hp) (s : Shared) (Q : VK) (u : Value) (s' : Shared) : Prop :=
  ∃ v H', s'.os = s.os ∧ AllBare s'.gens ∧ Un (frs outer) [] H H' s.heap s'.heap ∧ HOk P w H' s'.heap ∧ RelV v u ∧ Q v H'
def CR (CX : CXT) (outer : List Env) (P : Program) (w : World) (H : Hp) (s : Shared) (Q : VK) (E : XK) (r : Result) (s' : Shared) : Prop :=
  match r with
  | .ok (.ret u) => CE outer P w H s Q u s'
  | .ok _ => False
  | .error e => CX outer H s E e s'
structure FnOk (P : Program) (w : World) (K : PySem.W.Frag) (mg : Str → Option Value) (base : Heap) (CX : CXT) (k : Nat) (f : Addr) (fd : FuncData) (ps : List Str) (sp : Sp) : Prop where
  len : ∀ vs H Q E, sp vs H Q E → vs.length = ps.length
  run : ∀ (A : Around) (outer : List Env) (s : Shared) (H : Hp) (args : Args) (us : List Value) (vs : List V) (Q : VK) (E : XK), Room k A → Env0 P w K mg base A outer s H → BindsTo s fd args (ps.zip us) → Vals vs us → sp vs H Q E →
    codeAny (model P w) A (.call (.ref f) args) (CR CX outer P w H s Q E) s
theorem FnOk.mono {P : Program} {w : World} {K : PySem.W.Frag} {mg : Str → Option Value} {base : Heap} {CX : CXT} {j k : Nat} {f : Addr} {fd : FuncData} {ps : List Str} {sp : Sp} (F : FnOk P w K mg base CX j f fd ps sp) (h : j ≤ k) :
    FnOk P w K mg base CX k f fd ps sp := ⟨F.len, fun A outer s H args us vs Q E hr => F.run A outer s H args us vs Q E (hr.mono h)⟩
/-- a weaker promise -/
theorem FnOk.imp {P : Program} {w : World} {K : PySem.W.Frag} {mg : Str → Option Value} {base : Heap} {CX : CXT} {k : Nat} {f : Addr} {fd : FuncData} {ps : List Str} {sp sp' : Sp} (F : FnOk P w K mg base CX k f fd ps sp)
    (h : ∀ vs H Q E, sp' vs H Q E → sp vs H Q E) : FnOk P w K mg base CX k f fd ps sp' :=
  ⟨fun vs H Q E q => F.len vs H Q E (h _ _ _ _ q), fun A outer s H args us vs Q E hr he hb hv hs => F.run A outer s H args us vs Q E hr he hb hv (h _ _ _ _ hs)⟩

theorem Env0.make {P : Program} {w : World} {K : PySem.W.Frag} {mg : Str → Option Value} {base : Heap} {A : Around} {outer : List Env} {s : Shared} {H : Hp} (e : Env0 P w K mg base A outer s H) (C : Addr) (us : List Value) (kw : List (Str × Value)) :
    Env0 P w K mg base (A.under (.builtin "type.__call__" ⟨.ref C :: us, kw⟩)) outer s H := ⟨by first | exact e.frames | (simpa [Around.under, Code.envs, Code.isFrame, pushEnvs] using e.frames), e.mod, e.bs, e.bsz, e.funs, e.frf, e.hok, e.bare⟩
theorem Env0.in1 {P : Program} {w : World} {K : PySem.W.Frag} {mg : Str → Option Value} {base : Heap} {A : Around} {outer : List Env} {s : Shared} {H : Hp} (e : Env0 P w K mg base A outer s H) :
    Env0 P w K mg base A.in1 outer s H := ⟨e.frames, e.mod, e.bs, e.bsz, e.funs, e.frf, e.hok, e.bare⟩

section
variable {X : Cx} {pins : List (Addr × Obj)} {σ : St} {H : Hp} {s s' : Shared}
/-- from a body: what a callee wants -/
theorem Inv.env0 (I : Inv X pins σ H s) : Env0 X.prog X.w X.K X.mg X.base X.A X.stack s H :=
  ⟨I.ok.frames, I.ok.mod, I.bs, Nat.le_trans I.ok.bsz I.sz, I.stack, I.stkFree, I.hok, I.bare⟩
/-- behind a call -/
theorem Inv.after {Q : VK} {u : Value} (I : Inv X pins σ H s) (h : CE X.stack X.prog X.w H s Q u s') : EP X pins σ Q u s' := by
  obtain ⟨v, H', os, bare, un, hok, r, q⟩ := h
  obtain ⟨hh, g, d, t, os'⟩ := s'
  obtain rfl : os' = s.os := os
  exact ⟨v, H', I.call (h' := hh) (g' := g) (d' := d) (t' := t) (ch := []) un hok bare (fun b z => absurd z (by simp)), r, q⟩
end

/-! ### calls -/
/-- f(..): the written arguments, then the defaults dvs; E: what is wanted of an exception -/
def tCall (sp : Sp) (dvs : List V) (E : XK) (t : TA) : TE := fun σ H Q => t σ H fun vs H1 => sp (vs ++ dvs) H1 Q E
/-- o.m(..) of an instance of the class at C -/
def tMeth (C : Addr) (m : Str) (sp : Sp) (dvs : List V) (E : XK) (ta : TE) (t : TA) : TE := fun σ H Q => ta σ H fun x H1 => ∃ a dx fs, x = .ref a ∧ H1 a = some (.ins C dx fs) ∧ fs.lookup m = none ∧
  t σ H1 fun vs H2 => sp (x :: (vs ++ dvs)) H2 Q E
/-- C(..): a new instance and its dict, then __init__ -/
def tMake (C : Addr) (sp : Sp) (dvs : List V) (E : XK) (t : TA) : TE := fun σ H Q => t σ H fun vs H1 => ∀ x dx, H1 x = none → H1 dx = none → dx ≠ x →
  sp (.ref x :: (vs ++ dvs)) (upd (upd H1 dx (.own x)) x (.ins C dx [])) (fun v H2 => v = .non ∧ Q (.ref x) H2) E

/-- how the parameters are bound: us the positional arguments, kw the keywords' values by name, ds the defaults that fill up -/
def Binds (K : PySem.W.Frag) (fd : FuncData) (ps : List Str) (ds : List Value) : Prop :=
  ∀ (s : Shared) (us : List Value), K.In s.heap → (us ++ ds).length = ps.length → BindsTo s fd ⟨us, []⟩ (ps.zip (us ++ ds))
/-- every parameter is given -/
theorem Binds.all {K : PySem.W.Frag} {fd : FuncData} {ps : List Str} (h : ∀ us : List Value, us.length = ps.length → bindArgs fd ⟨us, []⟩ = pure (ps.zip us)) : Binds K fd ps [] := fun s us _ hl => by
  rw [List.append_nil] at hl ⊢
  exact .of_eq (h us hl)

/-- an exception of a callee reaches what this body wants of exceptions -/
def Passes (CX : CXT) (X : Cx) (E : XK) : Prop := ∀ (pins : List (Addr × Obj)) (σ : St) (H : Hp) (s : Shared) (e : Value) (s' : Shared), Inv X pins σ H s → CX X.stack H s E e s' → X.xe e s'

section
variable {X : Cx} {CX : CXT} {k : Nat} {f C : Addr} {fd : FuncData} {ps : List Str} {sp : Sp} {dvs : List V} {ds : List Value} {E : XK} {x m : Str} {p pos apos : Pos} {e o : Expr} {es : List Expr} {ta : TE} {t : TA}

/-- the callee runs -/
theorem run_fn {pins : List (Addr × Obj)} {σ : St} {H : Hp} {s : Shared} {Q : VK} {us : List Value} {vs : List V} (F : FnOk X.prog X.w X.K X.mg X.base CX k f fd ps sp) (hr : Room k X.A) (hb : Binds X.K fd ps ds) (hd : Vals dvs ds) (hx : Passes CX X E)
    (I : Inv X pins σ H s) (r : Vals vs us) (h : sp (vs ++ dvs) H Q E) : wpAny (model X.prog X.w) X.A (call (.ref f) us) (EP X pins σ Q) X.xe s := by
  have r2 : Vals (vs ++ dvs) (us ++ ds) := r.append hd
  have hl : (us ++ ds).length = ps.length := by rw [← r2.length]; exact F.len _ _ _ _ h
  refine wpAny_call (codeAny_mono (F.run X.A X.stack s H ⟨us, []⟩ (us ++ ds) (vs ++ dvs) Q E hr I.env0 (hb s us I.kIn hl) r2 h) fun r s' hq => ?_)
  cases r with
  | error e => exact hx pins σ H s e s' I hq
  | ok fl =>
    cases fl with
    | ret u => exact I.after hq
    | next => exact False.elim hq
    | brk => exact False.elim hq
    | cont => exact False.elim hq

theorem pe_call (F : FnOk X.prog X.w X.K X.mg X.base CX k f fd ps sp) (hr : Room k X.A) (hg : Gl X x) (hm : X.mg x = some (.ref f)) (hk : PySem.W.keepIn X.K (.ref f) = true) (hb : Binds X.K fd ps ds) (hd : Vals dvs ds) (hx : Passes CX X E)
    (ha : PA X (e :: es) t) (hdb : (x == ("__debug__" : Str)) = false := by decide) (he : starEach (e :: es) X.env = (false, eval e X.env) :: starEach es X.env := by rfl) (hpl : (backTo pos (starEach es X.env)).any (·.1) = false := by rfl) :
    PE X (.Call (.Name x p) (e :: es) [] pos) (tCall sp dvs E t) := by
  intro pins s σ H Q I h
  refine wpAny_Call_Name_kw (ld_glob I hg hm ?_ hdb)
  refine PySem.W.callWith_K (h₀ := X.base) I.ok.mod.kin hk (thn (ha pos pins s σ H _ I h) fun us s1 ⟨vs, H1, I1, r, q⟩ => ⟨I1.kIn, ?_⟩) he hpl
  exact run_fn F hr hb hd hx I1 r q
theorem pe_call0 (F : FnOk X.prog X.w X.K X.mg X.base CX k f fd ps sp) (hr : Room k X.A) (hg : Gl X x) (hm : X.mg x = some (.ref f)) (hk : PySem.W.keepIn X.K (.ref f) = true) (hb : Binds X.K fd ps ds) (hd : Vals dvs ds) (hx : Passes CX X E)
    (hdb : (x == ("__debug__" : Str)) = false := by decide) : PE X (.Call (.Name x p) [] [] pos) (tCall sp dvs E tNil) := by
  intro pins s σ H Q I h
  refine wpAny_Call_Name_kw (ld_glob I hg hm ?_ hdb)
  exact PySem.W.callWith_K0 I.kIn hk (run_fn (us := []) F hr hb hd hx I .nil h)

/-- o.m(e, ..) -/
theorem pe_meth {pl : Sem Bool} (he : PE X o ta) (c : Cls X.K C) (hm : Meth X.K C m f) (F : FnOk X.prog X.w X.K X.mg X.base CX k f fd ps sp) (hr : Room k X.A) (hb : Binds X.K fd ps ds) (hd : Vals dvs ds) (hx : Passes CX X E) (ha : PA X (e :: es) t)
    (hst : starEach (e :: es) X.env = (false, eval e X.env) :: starEach es X.env := by rfl) (hpl : (backTo pos (starEach es X.env)).any (·.1) = false := by rfl)
    (ht : eval (.Call (.Attribute o m apos) (e :: es) [] pos) X.env = (do
      let ov ← eval o X.env
      standAt apos.atName
      let (f, first) ← holding [ov] (getMethod ov m pl)
      callWith pos f first (backTo pos (starEach (e :: es) X.env)) (backToKw pos (keywordEach [] X.env))) := by rfl) :
    PE X (.Call (.Attribute o m apos) (e :: es) [] pos) (tMeth C m sp dvs E ta t) := by
  intro pins s σ H Q I h
  refine PySem.W.methodCall_KW (pl := pl) (thn (he pins s σ H _ I h) fun u s1 ⟨x, H1, I1, rx, a, dx, fs, ex, ea, l, q⟩ => ?_) ht
  subst ex
  obtain rfl : u = Value.ref a := rx
  refine getmeth_ok I1 ea c hm l ?_
  refine PySem.W.callWith_K (first := [.ref a]) (h₀ := X.base) I.ok.mod.kin hm.kp (thn (ha pos pins s1 σ H1 _ I1 q) fun us s2 ⟨vs, H2, I2, r, q2⟩ => ⟨I2.kIn, ?_⟩) hst hpl
  exact run_fn (us := .ref a :: us) (vs := .ref a :: vs) F hr hb hd hx I2 (.cons rfl r) q2
/-- o.m() -/
theorem pe_meth0 {pl : Sem Bool} (he : PE X o ta) (c : Cls X.K C) (hm : Meth X.K C m f) (F : FnOk X.prog X.w X.K X.mg X.base CX k f fd ps sp) (hr : Room k X.A) (hb : Binds X.K fd ps ds) (hd : Vals dvs ds) (hx : Passes CX X E)
    (ht : eval (.Call (.Attribute o m apos) [] [] pos) X.env = (do
      let ov ← eval o X.env
      standAt apos.atName
      let (f, first) ← holding [ov] (getMethod ov m pl)
      callWith pos f first (backTo pos (starEach [] X.env)) (backToKw pos (keywordEach [] X.env))) := by rfl) :
    PE X (.Call (.Attribute o m apos) [] [] pos) (tMeth C m sp dvs E ta tNil) := by
  intro pins s σ H Q I h
  refine PySem.W.methodCall_KW (pl := pl) (thn (he pins s σ H _ I h) fun u s1 ⟨x, H1, I1, rx, a, dx, fs, ex, ea, l, q⟩ => ?_) ht
  subst ex
  obtain rfl : u = Value.ref a := rx
  refine getmeth_ok I1 ea c hm l ?_
  exact PySem.W.callWith_K0 (first := [.ref a]) I1.kIn hm.kp (run_fn (us := [.ref a]) (vs := [.ref a]) F hr hb hd hx I1 (.cons rfl .nil) q)

/-- what a class must have to be made -/
structure Mk (K : PySem.W.Frag) (C f : Addr) : Prop where
  makes : PySem.W.makesIn K C = true
  init : PySem.W.findIn K (.ref C) "__init__" = some (some (.ref f))
  fn : PySem.W.isFn K (.ref f) = true
  kp : PySem.W.keepIn K (.ref C) = true

theorem run_make {pins : List (Addr × Obj)} {σ : St} {H : Hp} {s : Shared} {Q : VK} {us : List Value} {vs : List V} (M : Mk X.K C f) (F : FnOk X.prog X.w X.K X.mg X.base CX k f fd ps sp) (hr : Room (k + 1) X.A) (hb : Binds X.K fd ps ds) (hd : Vals dvs ds)
    (hx : Passes CX X E) (I : Inv X pins σ H s) (r : Vals vs us)
    (h : ∀ x dx, H x = none → H dx = none → dx ≠ x → sp (.ref x :: (vs ++ dvs)) (upd (upd H dx (.own x)) x (.ins C dx [])) (fun v H2 => v = .non ∧ Q (.ref x) H2) E) :
    wpAny (model X.prog X.w) X.A (call (.ref C) us) (EP X pins σ Q) X.xe s := by
  have hq := h (s.heap.objs.size + 1) s.heap.objs.size (I.hok.fresh (Nat.le_succ _)) (I.hok.fresh (Nat.le_refl _)) (Nat.ne_of_lt (Nat.lt_succ_self _))
  have I2 := Inv.made (C := C) I
  have r2 : Vals (V.ref (s.heap.objs.size + 1) :: (vs ++ dvs)) (Value.ref (s.heap.objs.size + 1) :: (us ++ ds)) := .cons rfl (r.append hd)
  have hl : (Value.ref (s.heap.objs.size + 1) :: us ++ ds).length = ps.length := by
    have e := r2.length
    rw [F.len _ _ _ _ hq] at e
    exact e.symm
  refine wpAny_call (make_map (f := f) I.kIn M.makes M.init (beq_iff_eq.mp M.fn) (codeAny_mono (F.run _ X.stack _ _ ⟨Value.ref (s.heap.objs.size + 1) :: us, []⟩ (Value.ref (s.heap.objs.size + 1) :: (us ++ ds)) _ _ E (hr.make C us [])
    (I2.env0.make C us []) (hb _ (Value.ref (s.heap.objs.size + 1) :: us) I2.kIn hl) r2 hq) fun r s' hq' => ?_))
  cases r with
  | error e => exact hx pins σ _ _ e s' I2 hq'
  | ok fl =>
    cases fl with
    | ret u =>
      obtain ⟨v, H', I3, rv, ev, q3⟩ := I2.after hq'
      subst ev
      exact ⟨rv, ⟨V.ref (s.heap.objs.size + 1), H', I3, rfl, q3⟩⟩
    | next => exact False.elim hq'
    | brk => exact False.elim hq'
    | cont => exact False.elim hq'
theorem pe_make (M : Mk X.K C f) (F : FnOk X.prog X.w X.K X.mg X.base CX k f fd ps sp) (hr : Room (k + 1) X.A) (hg : Gl X x) (hm : X.mg x = some (.ref C)) (hb : Binds X.K fd ps ds) (hd : Vals dvs ds) (hx : Passes CX X E)
    (ha : PA X (e :: es) t) (hdb : (x == ("__debug__" : Str)) = false := by decide) (he : starEach (e :: es) X.env = (false, eval e X.env) :: starEach es X.env := by rfl) (hpl : (backTo pos (starEach es X.env)).any (·.1) = false := by rfl) :
    PE X (.Call (.Name x p) (e :: es) [] pos) (tMake C sp dvs E t) := by
  intro pins s σ H Q I h
  refine wpAny_Call_Name_kw (ld_glob I hg hm ?_ hdb)
  refine PySem.W.callWith_K (h₀ := X.base) I.ok.mod.kin M.kp (thn (ha pos pins s σ H _ I h) fun us s1 ⟨vs, H1, I1, r, q⟩ => ⟨I1.kIn, ?_⟩) he hpl
  exact run_make M F hr hb hd hx I1 r q
theorem pe_make0 (M : Mk X.K C f) (F : FnOk X.prog X.w X.K X.mg X.base CX k f fd ps sp) (hr : Room (k + 1) X.A) (hg : Gl X x) (hm : X.mg x = some (.ref C)) (hb : Binds X.K fd ps ds) (hd : Vals dvs ds) (hx : Passes CX X E)
    (hdb : (x == ("__debug__" : Str)) = false := by decide) : PE X (.Call (.Name x p) [] [] pos) (tMake C sp dvs E tNil) := by
  intro pins s σ H Q I h
  refine wpAny_Call_Name_kw (ld_glob I hg hm ?_ hdb)
  exact PySem.W.callWith_K0 I.kIn M.kp (run_make (us := []) M F hr hb hd hx I .nil h)
end

/-! ### keywords -/
/-- the values of the keywords, from the left -/
def PK (X : Cx) (kws : List Keyword) (t : TA) : Prop :=
  ∀ (pos : Pos) (pins : List (Addr × Obj)) (s : Shared) (σ : St) (H : Hp) (Q : List V → Hp → Prop), Inv X pins σ H s → t σ H Q → wpAny (model X.prog X.w) X.A (evalAll ((backToKw pos (keywordEach kws X.env)).map (·.2))) (AP X pins σ Q) X.xe s
section
variable {X : Cx} {CX : CXT} {k : Nat} {f C : Addr} {fd : FuncData} {ps ks : List Str} {sp : Sp} {E : XK} {x m : Str} {p pos apos kpos : Pos} {e o : Expr} {es : List Expr} {kws : List Keyword} {te ta : TE} {t tk : TA} {nm : Option Str}
theorem pk_nil : PK X [] tNil := fun _ _ _ _ H Q I h => wpAny_evalAll_nil ⟨[], H, I, .nil, h⟩
theorem pk_cons (ha : PE X e te) (hr : PK X kws t) : PK X (⟨nm, e, kpos⟩ :: kws) (tCons te t) := by
  intro pos pins s σ H Q I h
  show wpAny _ _ (evalAll ((do let v ← eval e X.env; standAt pos; pure v) :: (backToKw pos (keywordEach kws X.env)).map (·.2))) _ _ s
  refine wpAny_evalAll_cons (wpAny_bind (thn (ha pins s σ H _ I h) fun u s1 ⟨x, H1, I1, r1, q1⟩ => wpAny_bind (wpAny_standAt (wpAny_pure ?_))))
  exact thn (hr pos pins s1 σ H1 _ I1 q1) fun us s2 ⟨xs, H2, I2, r2, q2⟩ => ⟨x :: xs, H2, I2, .cons r1 r2, q2⟩

/-- how a call with keywords binds: g puts the positional values us and the keywords' values ws (names ks) in the parameters' order, defaults among them -/
structure KBinds (K : PySem.W.Frag) (fd : FuncData) (ps ks : List Str) (g : List Value → List Value → List Value) (gV : List V → List V → List V) : Prop where
  to : ∀ (s : Shared) (us ws : List Value), K.In s.heap → (g us ws).length = ps.length → BindsTo s fd ⟨us, ks.zip ws⟩ (ps.zip (g us ws))
  rel : ∀ {vs : List V} {us : List Value} {zs : List V} {ws : List Value}, Vals vs us → Vals zs ws → Vals (gV vs zs) (g us ws)
def tCallK (sp : Sp) (gV : List V → List V → List V) (E : XK) (t tk : TA) : TE := fun σ H Q => t σ H fun vs H1 => tk σ H1 fun zs H2 => sp (gV vs zs) H2 Q E
variable {g : List Value → List Value → List Value} {gV : List V → List V → List V}
theorem run_fnk {pins : List (Addr × Obj)} {σ : St} {H : Hp} {s : Shared} {Q : VK} {us ws : List Value} {vs zs : List V} (F : FnOk X.prog X.w X.K X.mg X.base CX k f fd ps sp) (hr : Room k X.A) (hb : KBinds X.K fd ps ks g gV) (hx : Passes CX X E)
    (I : Inv X pins σ H s) (r : Vals vs us) (rz : Vals zs ws) (h : sp (gV vs zs) H Q E) : wpAny (model X.prog X.w) X.A (call (.ref f) us (ks.zip ws)) (EP X pins σ Q) X.xe s := by
  have r2 := hb.rel r rz
  have hl : (g us ws).length = ps.length := by rw [← r2.length]; exact F.len _ _ _ _ h
  refine wpAny_call (codeAny_mono (F.run X.A X.stack s H ⟨us, ks.zip ws⟩ (g us ws) (gV vs zs) Q E hr I.env0 (hb.to s us ws I.kIn hl) r2 h) fun r s' hq => ?_)
  cases r with
  | error e => exact hx pins σ H s e s' I hq
  | ok fl =>
    cases fl with
    | ret u => exact I.after hq
    | next => exact False.elim hq
    | brk => exact False.elim hq
    | cont => exact False.elim hq
/-- f(e, .., k = v, ..) -/
theorem pe_callK (F : FnOk X.prog X.w X.K X.mg X.base CX k f fd ps sp) (hr : Room k X.A) (hg : Gl X x) (hm : X.mg x = some (.ref f)) (hk : PySem.W.keepIn X.K (.ref f) = true) (hb : KBinds X.K fd ps ks g gV) (hx : Passes CX X E)
    (ha : PA X (e :: es) t) (hkw : PK X kws tk) (hall : (backToKw pos (keywordEach kws X.env)).all (·.1.isSome) = true := by rfl) (hks : (backToKw pos (keywordEach kws X.env)).filterMap (·.1) = ks := by rfl)
    (hdb : (x == ("__debug__" : Str)) = false := by decide) (he : starEach (e :: es) X.env = (false, eval e X.env) :: starEach es X.env := by rfl)
    (hpl : ((backTo pos (starEach (e :: es) X.env)).any (·.1) || (backToKw pos (keywordEach kws X.env)).any (·.1.isNone)) = false := by rfl) :
    PE X (.Call (.Name x p) (e :: es) kws pos) (tCallK sp gV E t tk) := by
  intro pins s σ H Q I h
  refine wpAny_Call_Name_kw (ld_glob I hg hm ?_ hdb)
  refine PySem.W.callWith_KW (h₀ := X.base) I.ok.mod.kin hk hall (thn (ha pos pins s σ H _ I h) fun us s1 ⟨vs, H1, I1, r, q⟩ => ?_) hpl he
  refine thn (hkw pos pins s1 σ H1 _ I1 q) fun ws s2 ⟨zs, H2, I2, rz, q2⟩ => ⟨I2.kIn, ?_⟩
  rw [hks]
  exact run_fnk F hr hb hx I2 r rz q2
end

/-! ### a def's body keeps its promise -/
/-- names: the parameters first -/
structure FnScope (N P : List Str) (sc : Scope) : Prop where
  kind : sc.kind = .function
  co : sc.isCoroutine = false
  gen : sc.isGenerator = false
  nd : N.Nodup
  pre : N.take P.length = P
  par : ∀ x ∈ P, sc.names.lookup x = some .local ∨ sc.names.lookup x = some .cell
  nofree : ∀ y ∈ sc.names, y.2 ≠ .free

theorem bindL_out {kindOf : Str → Option NameKind} {x : Str} : ∀ {binds : List (Str × Value)} {m : Str → Option Value}, (∀ v, (x, v) ∉ binds) → bindL kindOf binds m x = m x
  | [], _, _ => rfl
  | (n, v) :: r, m, h => by
    unfold bindL
    rw [bindL_out fun w hw => h w (List.mem_cons_of_mem _ hw)]
    split
    · have : x ≠ n := by rintro rfl; exact h v List.mem_cons_self
      simp [this]
    · rfl
theorem bindC_out {kindOf : Str → Option NameKind} {x : Str} : ∀ {binds : List (Str × Value)} {m : Str → Option Value}, (∀ v, (x, v) ∉ binds) → bindC kindOf binds m x = m x
  | [], _, _ => rfl
  | (n, v) :: r, m, h => by
    unfold bindC
    rw [bindC_out fun w hw => h w (List.mem_cons_of_mem _ hw)]
    split
    · rfl
    · have : x ≠ n := by rintro rfl; exact h v List.mem_cons_self
      simp [this]
theorem bindL_get {kindOf : Str → Option NameKind} {x : Str} {v : Value} : ∀ {P : List Str} {vs : List Value} {i : Nat} {m : Str → Option Value}, P.Nodup → P[i]? = some x → vs[i]? = some v → kindOf x = some .local →
    bindL kindOf (P.zip vs) m x = some v
  | [], _, _, _, _, h, _, _ => by simp at h
  | _ :: _, [], _, _, _, _, h, _ => by simp at h
  | p :: P, w :: vs, 0, m, nd, h1, h2, hk => by
    simp at h1 h2; subst h1; subst h2
    show bindL kindOf ((p, w) :: P.zip vs) m p = _
    unfold bindL
    rw [bindL_out fun v hv => (List.nodup_cons.mp nd).1 (List.of_mem_zip hv).1, if_pos hk]
    simp
  | p :: P, w :: vs, i + 1, m, nd, h1, h2, hk => by
    show bindL kindOf ((p, w) :: P.zip vs) m x = _
    unfold bindL
    exact bindL_get (i := i) (List.nodup_cons.mp nd).2 (by simpa using h1) (by simpa using h2) hk
theorem bindC_get {kindOf : Str → Option NameKind} {x : Str} {v : Value} : ∀ {P : List Str} {vs : List Value} {i : Nat} {m : Str → Option Value}, P.Nodup → P[i]? = some x → vs[i]? = some v → kindOf x ≠ some .local →
    bindC kindOf (P.zip vs) m x = some v
  | [], _, _, _, _, h, _, _ => by simp at h
  | _ :: _, [], _, _, _, _, h, _ => by simp at h
  | p :: P, w :: vs, 0, m, nd, h1, h2, hk => by
    simp at h1 h2; subst h1; subst h2
    show bindC kindOf ((p, w) :: P.zip vs) m p = _
    unfold bindC
    rw [bindC_out fun v hv => (List.nodup_cons.mp nd).1 (List.of_mem_zip hv).1, if_neg hk]
    simp
  | p :: P, w :: vs, i + 1, m, nd, h1, h2, hk => by
    show bindC kindOf ((p, w) :: P.zip vs) m x = _
    unfold bindC
    exact bindC_get (i := i) (List.nodup_cons.mp nd).2 (by simpa using h1) (by simpa using h2) hk

/-- the names' values at the entry -/
def start (N : List Str) (vs : List V) : St := vs.map some ++ List.replicate (N.length - vs.length) none

/-- the context of a def's body, at its entry; an exception leaves the frame, then lies as CX says -/
def cxOf (CX : CXT) (P : Program) (w : World) (K : PySem.W.Frag) (mg : Str → Option Value) (base : Heap) (N : List Str) (qual : Str) (scope : Scope) (f : Addr) (cd : Value) (A : Around) (outer : List Env) (s : Shared) (H : Hp) (E : XK) : Cx where
  prog := P
  w := w
  K := K
  mg := mg
  base := base
  A := A.deeper (envOfC qual scope s.heap.objs.size f cd)
  N := N
  s₀ := s
  H₀ := H
  env := envOfC qual scope s.heap.objs.size f cd
  outer := outer
  stack := envOfC qual scope s.heap.objs.size f cd :: outer
  ex := []
  calm := true
  fn := fun _ => true
  pn := []
  xe := fun e s' => wpAny (model P w) (A.deeper (envOfC qual scope s.heap.objs.size f cd)) (leaving (envOfC qual scope s.heap.objs.size f cd) e) (fun _ s'' => CX outer H s E e s'') (fun e' s'' => CX outer H s E e' s'') s'

theorem cell_has {sc : Scope} {n : Nat} {x : Str} (h : sc.names.lookup x = some .cell) : ∃ c, (cellsFrom n sc.names []).lookup x = some c := by
  have q := PySem.W.cellsFrom_some sc.names n [] (.inl h)
  exact Option.isSome_iff_exists.mp q

theorem inv_start {CX : CXT} {P : Program} {w : World} {K : PySem.W.Frag} {mg : Str → Option Value} {base : Heap} {N ps : List Str} {qual : Str} {scope : Scope} {f : Addr} {cd : Value} {A : Around} {outer : List Env} {s s1 : Shared} {H : Hp} {E : XK} {us : List Value} {vs : List V}
    (S : FnScope N ps scope) (hd : A.handled = none) (e0 : Env0 P w K mg base A outer s H) (hl : vs.length = ps.length) (r : Vals vs us)
    (x : InCallC s s.heap.objs.size (bindL (envOfC qual scope s.heap.objs.size f cd).kindOf (ps.zip us) fun _ => none) (cellsFrom (s.heap.objs.size + 1) scope.names []) (bindC (envOfC qual scope s.heap.objs.size f cd).kindOf (ps.zip us) fun _ => none) s1) :
    Inv (cxOf CX P w K mg base N qual scope f cd A outer s H E) [] (start N vs) H s1 := by
  have hpl : ps.length ≤ N.length := by have := congrArg List.length S.pre; rw [List.length_take] at this; omega
  obtain ⟨h1, tk, rfl, hk⟩ := x.done
  have noA : ∀ b : Addr, b ∉ (cxOf CX P w K mg base N qual scope f cd A outer s H E).ex := fun b z => absurd (show b ∈ ([] : List Addr) from z) (by simp)
  refine ⟨⟨e0.mod, S.kind, rfl, rfl, Nat.le_refl _, fun y z c h1 h2 => ?_, fun y hy => ?_, fun y c _ h => ?_, fun _ => hd, Around.frames_deeper e0.frames, .inr ⟨rfl, rfl⟩, fun b z => absurd z (noA b), e0.bs, e0.bsz, fun b _ _ => noA b, fun b z => absurd z (noA b), e0.funs, e0.frf⟩,
    rfl, e0.bare, Un.kept hk, ⟨_, x.toInCall.ns, fun i y v h1 h2 h3 => ?_⟩, fun y c h => ⟨_, x.cell y c h⟩, e0.hok.fresh (Nat.le_refl _), fun y c h => ?_, fun p hp => absurd (show p ∈ ([] : List (Addr × Obj)) from hp) (by simp), e0.hok.kept hk, ?_⟩
  · exact name_of_addr x.apart (PySem.mem_of_lookup h1) (PySem.mem_of_lookup h2)
  · have hy : scope.names.lookup y = some .cell ∨ scope.names.lookup y = some .free := hy
    rcases hy with hy | hy
    · exact cell_has hy
    · exact absurd rfl (S.nofree _ (PySem.mem_of_lookup hy))
  · exact Nat.le_of_lt (x.above y c (PySem.mem_of_lookup h))
  · have hi : i < vs.length := by
      unfold start at h2
      by_cases hi : i < vs.length
      · exact hi
      · rw [List.getElem?_append_right (by simpa using hi)] at h2
        rw [List.getElem?_replicate] at h2
        split at h2 <;> cases h2
    have ha : vs[i]? = some v := by
      unfold start at h2
      rw [List.getElem?_append_left (by simpa using hi), List.getElem?_map] at h2
      cases e : vs[i]? with
      | none => rw [e] at h2; cases h2
      | some a => rw [e] at h2; cases h2; rfl
    obtain ⟨u, hu, rv⟩ := r.get ha
    have hp : ps[i]? = some y := by
      rw [← S.pre, List.getElem?_take_of_lt (by omega)]; exact h1
    have ndP : ps.Nodup := by rw [← S.pre]; exact S.nd.sublist (List.take_sublist _ _)
    refine ⟨u, rv, ?_⟩
    rcases S.par y (List.mem_of_getElem? hp) with k | k
    · exact .inl ⟨k, bindL_get ndP hp hu k⟩
    · obtain ⟨c, e⟩ := cell_has (n := s.heap.objs.size + 1) k
      refine .inr ⟨.inl k, c, e, ?_⟩
      have q := x.cell y c e
      rw [bindC_get ndP hp hu (by show scope.names.lookup y ≠ _; rw [k]; decide)] at q
      exact q
  · exact e0.hok.fresh (Nat.le_of_lt (x.above y c (PySem.mem_of_lookup h)))
  · unfold start
    show _ = N.length
    rw [List.length_append, List.length_map, List.length_replicate]
    omega

/-- THE RULE: a def (or a method) of the text, by its body. The body's reading t is chosen for each entry; it is run at the parameters' values -/
theorem fn_of {CX : CXT} {P : Program} {w : World} {K : PySem.W.Frag} {mg : Str → Option Value} {base : Heap} {k : Nat} {f : Addr} {name qual : Str} {params : Arguments} {body : List Stmt} {scope : Scope} {dV kV doc pm cdv ct oc : Value} {an od : Option Addr}
    {osl : Array (Option Value)} {N ps : List Str} {sp : Sp} (lk : K.lookup f = some ⟨oc, od, .func (PySem.W.fnOf name qual params body scope dV kV doc pm an cdv ct), osl⟩) (hcd : PySem.W.codeIn K cdv qual = true) (S : FnScope N ps scope)
    (len : ∀ vs H Q E, sp vs H Q E → vs.length = ps.length)
    (hbody : ∀ (A : Around) (outer : List Env) (s : Shared) (H : Hp) (vs : List V) (Q : VK) (E : XK), Room k (A.deeper (envOfC qual scope s.heap.objs.size f cdv)) → sp vs H Q E →
      ∃ t, PSs (cxOf CX P w K mg base N qual scope f cdv A outer s H E) body t ∧ t { nx := fun _ H' => Q .non H', rt := Q } (start N vs) H) :
    FnOk P w K mg base CX (k + 1) f (PySem.W.fnOf name qual params body scope dV kV doc pm an cdv ct) ps sp := by
  refine ⟨len, fun A outer s H args us vs Q E hr e0 hb r hsp => ?_⟩
  have hl := len _ _ _ _ hsp
  have KX : K.In s.heap := e0.mod.kin.keeps fun b o e => (e0.bs b o e).1
  have lim : s.heap.NoLimit := e0.mod.nolimit.keeps fun b o e => (e0.bs b o e).1
  have hkind : ∀ y ∈ ps.zip us, scope.names.lookup y.1 = some .local ∨ (scope.names.lookup y.1 = some .cell ∧ ((cellsFrom (s.heap.objs.size + 1) scope.names []).lookup y.1).isSome = true) := fun ⟨n, v⟩ hy => by
    rcases S.par n (List.of_mem_zip hy).1 with q | q
    · exact .inl q
    · exact .inr ⟨q, PySem.W.cellsFrom_some _ _ _ (.inl q)⟩
  refine codeAny_call_function hr.depth (KX _ _ lk) rfl S.co S.gen rfl (PySem.W.codeRec_of KX hcd) (hb _ _ _ _ ?_)
  refine wpAny_newFunctionEnv_cells S.kind hkind fun env he s1 x => ?_
  subst he
  refine ⟨lim.keeps x.toInCall.keep, codeAny_func ?_⟩
  obtain ⟨t, ht, hq⟩ := hbody A outer s H vs Q E (hr.deeper _) hsp
  have I : Inv (cxOf CX P w K mg base N qual scope f cdv A outer s H E) [] (start N vs) H s1 := inv_start S hr.hd e0 hl r x
  refine wpAny_mono (ht [] s1 (start N vs) H _ I hq) (fun fl s' hs => ?_) fun e s' hs => hs
  have fin : ∀ {σ' : St} {H' : Hp} {v : V} {u : Value}, Inv (cxOf CX P w K mg base N qual scope f cdv A outer s H E) [] σ' H' s' → RelV v u → Q v H' → CE outer P w H s Q u s' :=
    fun {σ' H' v u} J rv q => ⟨v, H', J.os, J.bare, J.base, J.hok, rv, q⟩
  cases fl with
  | ret u =>
    obtain ⟨v, σ', H', J, rv, q⟩ := hs
    exact fin J rv q
  | next =>
    obtain ⟨σ', H', J, q⟩ := hs
    exact fin (v := V.non) (u := Value.none) J rfl q
  | brk =>
    obtain ⟨_, _, _, q⟩ := hs
    exact False.elim q
  | cont =>
    obtain ⟨_, _, _, q⟩ := hs
    exact False.elim q
end L2

namespace L2
open PySem PySem.Spec PyProof.Rows
section
variable {X : Cx} {x : Str} {p pos : Pos} {e : Expr} {es : List Expr} {t : TA} {id T : String} {r : List V → Hp → VK → Prop}

def tCB (r : List V → Hp → VK → Prop) (t : TA) : TE := fun σ H Q => t σ H fun vs H1 => r vs H1 Q
/-- f(e, ..), f a built-in function -/
theorem pe_callB (hc : CallR X (.builtin id) r) (hg : Gl X x) (hm : X.mg x = none) (hv : bootBuiltins x = some (.builtin id)) (ha : PA X (e :: es) t) (hn : x ≠ "__name__" := by decide) (hdb : (x == ("__debug__" : Str)) = false := by decide)
    (he : starEach (e :: es) X.env = (false, eval e X.env) :: starEach es X.env := by rfl) (hpl : (backTo pos (starEach es X.env)).any (·.1) = false := by rfl) : PE X (.Call (.Name x p) (e :: es) [] pos) (tCB r t) := by
  intro pins s σ H Q I h
  refine wpAny_Call_Name_kw (ld_blt I hg hm hv ?_ hn hdb)
  exact PyProof.Rows.callWith_builtin1 (thn (ha pos pins s σ H _ I h) fun us s1 ⟨vs, H1, I1, r1, q1⟩ => hc pins s1 σ H1 vs us Q I1 r1 q1) he hpl
/-- T(e, ..), T a built-in type -/
theorem pe_callTy (hc : CallR X (.type T) r) (hg : Gl X x) (hm : X.mg x = none) (hv : bootBuiltins x = some (.type T)) (ha : PA X (e :: es) t) (hn : x ≠ "__name__" := by decide) (hdb : (x == ("__debug__" : Str)) = false := by decide)
    (he : starEach (e :: es) X.env = (false, eval e X.env) :: starEach es X.env := by rfl) (hpl : (backTo pos (starEach es X.env)).any (·.1) = false := by rfl) : PE X (.Call (.Name x p) (e :: es) [] pos) (tCB r t) := by
  intro pins s σ H Q I h
  refine wpAny_Call_Name_kw (ld_blt I hg hm hv ?_ hn hdb)
  exact PyProof.Rows.callWith_type1 (thn (ha pos pins s σ H _ I h) fun us s1 ⟨vs, H1, I1, r1, q1⟩ => hc pins s1 σ H1 vs us Q I1 r1 q1) he hpl
/-- T() -/
theorem pe_callTy0 (hc : CallR X (.type T) r) (hg : Gl X x) (hm : X.mg x = none) (hv : bootBuiltins x = some (.type T)) (hn : x ≠ "__name__" := by decide) (hdb : (x == ("__debug__" : Str)) = false := by decide) :
    PE X (.Call (.Name x p) [] [] pos) (tCB r tNil) := by
  intro pins s σ H Q I h
  refine wpAny_Call_Name_kw (ld_blt I hg hm hv ?_ hn hdb)
  exact PyProof.Rows.callWith_type0 (hc pins s σ H [] [] Q I .nil h)
end
end L2

namespace HT
open PySem PyProof.Rows

/-- t < u of tuples of ints -/
def lexLt : List Int → List Int → Bool
  | [], [] => false
  | [], _ :: _ => true
  | _ :: _, [] => false
  | x :: xs, y :: ys => if x = y then lexLt xs ys else decide (x < y)
theorem lexLt_cons (x y : Int) (xs ys : List Int) : lexLt (x :: xs) (y :: ys) = if x = y then lexLt xs ys else decide (x < y) := rfl
theorem lexLt_nil_nil : lexLt [] [] = false := rfl
theorem lexLt_nil_cons (y : Int) (ys : List Int) : lexLt [] (y :: ys) = true := rfl
theorem lexLt_cons_nil (x : Int) (xs : List Int) : lexLt (x :: xs) [] = false := rfl

theorem eqAt_int (A : Around) (s : Shared) (a : Int) (t : Tok) (c : Int) (u : Tok) : ∃ e, SeqAt.EqAt A s (.int a t) (.int c u) e ∧ (e = true ↔ a = c) :=
  ⟨(a == c), SeqAt.EqAt.int_int a t c u, by simp⟩
theorem rcLt_int (A : Around) (s : Shared) (a : Int) (t : Tok) (c : Int) (u : Tok) (prog : Program) (w : World) (E : Value → Shared → Prop) (Q : Value → Shared → Prop) (h : Q (.bool (decide (a < c))) s) :
    wpAny (model prog w) A (richCompare .Lt (.int a t) (.int c u)) Q E s :=
  (PyProof.Rows.lt_int h : wpAny (model prog w) A (compareOp .Lt (.int a t) (.int c u)) Q E s)

section
open PySem.SeqAt
open PySem.AutoSeq1 (wpAny_loadPart')
open PySem.MeetsSeq PySem.MeetsSeq2 PySem.MeetsSeq3

theorem tuple_lt_ints (l b : Addr) (items items2 : Array Value) (n n2 : Nat) (dd dd2 : Option Addr) (sl sl2 : Array (Option Value)) (ns ms : List Int) (hi : IntsAre items.toList ns) (hj : IntsAre items2.toList ms) :
    Meets (Builtin.«tuple.__lt__» ⟨[.ref l, .ref b], []⟩)
      (fun _ R s => s.heap.get? l = some { cls := .type "tuple", dict := dd, data := .seq items n, slots := sl } ∧ s.heap.get? b = some { cls := .type "tuple", dict := dd2, data := .seq items2 n2, slots := sl2 } ∧
        R (.ok (.ret (.bool (lexLt ns ms)))) s) :=
  .of_wp fun prog w A R s h => by
    obtain ⟨hp, g, d, tk, os⟩ := s; obtain ⟨hl, hb, h⟩ := h
    have f2 := AutoSeq1.sub_tuple_tuple
    have z1 : items.size = ns.length := by rw [← hi.length]; simp
    have z2 : items2.size = ms.length := by rw [← hj.length]; simp
    wp_walk using wpAny_loadPart' hl, wpAny_loadPart' hb, wpAny_forIn_list _ (fun rest b s' => b.1 = none ∧ s' = ⟨hp, g, d, tk, os⟩ ∧ ∃ (vs ws : List Value) (ns' ms' : List Int), rest = vs.zip ws ∧
      IntsAre vs ns' ∧ IntsAre ws ms' ∧ ns'.length + items2.size = ms'.length + items.size ∧ R (.ok (.ret (.bool (lexLt ns' ms')))) ⟨hp, g, d, tk, os⟩) _
    case turn =>
      rintro ⟨y, x⟩ rest b s' ⟨hb', rfl, vs, ws, ns', ms', hz, hvi, hwi, hlen, hR⟩
      cases hvi with
      | nil => rw [List.zip_nil_left] at hz; cases hz
      | cons a t hvi' =>
        cases hwi with
        | nil => rw [List.zip_nil_right] at hz; cases hz
        | cons c u hwi' =>
          rw [List.zip_cons_cons] at hz
          injection hz with hyx hrest
          injection hyx with hy hx
          subst hy hx
          rw [lexLt_cons] at hR
          simp only [List.length_cons] at hlen
          obtain ⟨e, he, hiff⟩ := eqAt_int A.in1 ⟨hp, g, d, tk, os⟩ a t c u
          refine wpAny_bind (he prog w _ _ ?_)
          cases e with
          | true =>
            rw [if_pos (hiff.mp rfl)] at hR
            wp_walk
            exact ⟨rfl, rfl, _, _, _, _, hrest, hvi', hwi', by omega, hR⟩
          | false =>
            rw [if_neg (fun q => absurd (hiff.mpr q) Bool.false_ne_true)] at hR
            have hri := rcLt_int A.in1 ⟨hp, g, d, tk, os⟩ a t c u prog w
            wp_walk using hri
            exact ⟨_, rfl, by simpa using hR⟩
    case fin =>
      rintro ⟨b1, b2⟩ s' ⟨hb', rfl, vs, ws, ns', ms', hz, hvi, hwi, hlen, hR⟩
      simp only at hb'
      subst hb'
      have hv : lexLt ns' ms' = decide (items.size < items2.size) := by
        cases hvi with
        | nil =>
          cases hwi with
          | nil =>
            simp only [List.length_nil] at hlen
            rw [lexLt_nil_nil]
            exact (decide_eq_false (by omega)).symm
          | cons c u hw =>
            simp only [List.length_nil, List.length_cons] at hlen
            rw [lexLt_nil_cons]
            exact (decide_eq_true (by omega)).symm
        | cons a t hv =>
          cases hwi with
          | nil =>
            simp only [List.length_nil, List.length_cons] at hlen
            rw [lexLt_cons_nil]
            exact (decide_eq_false (by omega)).symm
          | cons c u hw =>
            rw [List.zip_cons_cons] at hz
            cases hz
      rw [hv] at hR
      wp_walk
      exact ⟨_, rfl, by simpa [Builtin.Tuple.tupleCompareSizes] using hR⟩
    case h =>
      exact ⟨rfl, rfl, items.toList, items2.toList, ns, ms, rfl, hi, hj, by omega, h⟩
end

section
variable {prog : Program} {w : World} {A : Around} {E : Value → Shared → Prop} {s : Shared}

theorem lt_tupInts {l b : Addr} {items items2 : Array Value} {ns ms : List Int} {Q : Value → Shared → Prop} (hl : IsTup s.heap l items) (hb : IsTup s.heap b items2) (hi : IntsAre items.toList ns) (hj : IntsAre items2.toList ms)
    (hu : A.units < cLine) (h : Q (.bool (lexLt ns ms)) s) : wpAny (model prog w) A (compareOp .Lt (.ref l) (.ref b)) Q E s := by
  obtain ⟨⟨cls, dd, data, sl⟩, ho, hc, n, hd⟩ := id hl
  obtain ⟨⟨cls2, dd2, data2, sl2⟩, ho2, hc2, n2, hd2⟩ := id hb
  simp only at hc hd hc2 hd2
  subst hc hd hc2 hd2
  exact richCompare_meets_room (op := .Lt) ⟨_, ho, rfl⟩ ⟨_, ho2, rfl⟩ PySem.F.slot_tuple_lt PySem.F.entry_tuple_lt (PySem.F.args_tuple_lt_2 _ _) (tuple_lt_ints l b items items2 n n2 dd dd2 sl sl2 ns ms hi hj)
    ⟨ho, ho2, show Value.bool (lexLt ns ms) ≠ Value.notImplemented ∧ Q (.bool (lexLt ns ms)) s from ⟨(fun x => nomatch x), h⟩⟩ hu

/-- t + u, t not empty -/
theorem cat_tup {t b : Addr} {vs ws : List Value} {Q : Value → Shared → Prop} (ht : IsTup s.heap t vs.toArray) (hb : IsTup s.heap b ws.toArray) (hv : vs ≠ [])
    (h1 : ws = [] → Q (.ref t) s) (h2 : ws ≠ [] → Q (.ref s.heap.objs.size) { s with heap := s.heap.push { cls := .type "tuple", data := .seq (vs ++ ws).toArray } })
    (hsz : vs.length + ws.length ≤ sizeLine) : wpAny (model prog w) A (binaryOp .Add (.ref t) (.ref b)) Q E s := by
  obtain ⟨⟨cls, dd, data, sl⟩, ho, hc, n, hd⟩ := id ht
  obtain ⟨⟨cls2, dd2, data2, sl2⟩, ho2, hc2, n2, hd2⟩ := id hb
  simp only at hc hd hc2 hd2
  subst hc hd hc2 hd2
  have e : vs.toArray ++ ws.toArray = (vs ++ ws).toArray := by simp
  by_cases hw : ws = []
  · exact concat_meets ⟨_, ho, rfl⟩ ⟨_, ho2, rfl⟩ noFill_tuple_add seq_tuple_add PySem.F.slot_tuple_add PySem.F.entry_tuple_add (PySem.F.args_tuple_add_2 _ _)
      (tuple_addW1 t b vs.toArray ws.toArray n n2 dd dd2 sl sl2 (by simpa using hv) (by simp [hw])) ⟨ho, ho2, h1 hw⟩
  · refine concat_meets ⟨_, ho, rfl⟩ ⟨_, ho2, rfl⟩ noFill_tuple_add seq_tuple_add PySem.F.slot_tuple_add PySem.F.entry_tuple_add (PySem.F.args_tuple_add_2 _ _)
      (tuple_addW2 t b vs.toArray ws.toArray n n2 dd dd2 sl sl2 (by simpa using hv) (by simpa using hw) (by rw [List.size_toArray, List.size_toArray]; exact hsz)) ⟨ho, ho2, ?_⟩
    rw [e]
    exact h2 hw

/-! ### t[a:b], not the whole -/
/-- a slice's bound as a place among n (d where it is left out) -/
def sIx (n d : Nat) : Option Int → Nat
  | none => d
  | some v => if v < 0 then (v + (n : Int)).toNat else min v.toNat n
theorem sIx_none (n d : Nat) : sIx n d none = d := rfl
theorem sIx_nat (n d k : Nat) : sIx n d (some (k : Int)) = min k n := by
  show (if (k : Int) < 0 then ((k : Int) + (n : Int)).toNat else min (k : Int).toNat n) = min k n
  rw [if_neg (by omega), Int.toNat_natCast]
theorem sIx_le (n d : Nat) (hd : d ≤ n) (o : Option Int) : sIx n d o ≤ n := by
  cases o with
  | none => exact hd
  | some v =>
    show (if v < 0 then (v + (n : Int)).toNat else min v.toNat n) ≤ n
    by_cases hv : v < 0
    · rw [if_pos hv]; omega
    · rw [if_neg hv]; exact Nat.min_le_right _ _
theorem clip_eq (v : Int) (n d : Nat) : (if v < 0 then max (v + (n : Int)) 0 else min v (n : Int)) = ((sIx n d (some v) : Nat) : Int) := by
  show (if v < 0 then max (v + (n : Int)) 0 else min v (n : Int)) = (((if v < 0 then (v + (n : Int)).toNat else min v.toNat n) : Nat) : Int)
  by_cases hv : v < 0
  · simp only [if_pos hv]; omega
  · simp only [if_neg hv]; omega
theorem adjust_gen (lo hi : Option Int) (n : Nat) : Builtin.Slice.sliceAdjust lo hi 1 (n : Int) = (((sIx n 0 lo : Nat) : Int), ((sIx n n hi : Nat) : Int)) := by
  have h1 : ¬ ((1 : Int) < 0) := by omega
  unfold Builtin.Slice.sliceAdjust
  simp only [h1, if_false]
  refine Prod.ext ?_ ?_
  · cases lo with
    | none => rfl
    | some v => exact clip_eq v n 0
  · cases hi with
    | none => rfl
    | some v => exact clip_eq v n n
theorem places_gen (i j : Nat) : Builtin.Slice.slicePlaces (i : Int) (j : Int) 1 = j - i := by
  unfold Builtin.Slice.slicePlaces
  have h1 : (1 : Int) > 0 := by omega
  simp only [h1, if_true, Int.ediv_one]
  split <;> omega
theorem slicePart_ {v : Value} {o : Option Int} {Q : Option Int → Shared → Prop} (p : IsPart v o) (h : Q o s) : wpAny (model prog w) A (Builtin.Slice.slicePartIndex v) Q E s := by
  cases p with
  | none => exact slicePart_none h
  | int i t => exact slicePart_int h
theorem sliceApplied_gen {sl : Addr} {vl vu : Value} {lo hi : Option Int} {n : Nat} {Q : Int × Int × Nat → Shared → Prop} (hs : s.heap.IsSliceOf sl vl vu .none) (pl : IsPart vl lo) (pu : IsPart vu hi)
    (h : Q (((sIx n 0 lo : Nat) : Int), 1, sIx n n hi - sIx n 0 lo) s) : wpAny (model prog w) A (Builtin.Slice.sliceApplied (.ref sl) (pure (n : Int))) Q E s := by
  obtain ⟨os, hos, hcs, hds⟩ := id hs
  unfold Builtin.Slice.sliceApplied Builtin.Slice.sliceFields
  refine wpAny_bind (wpAny_bind (wpAny_field hos hds (x := vl) rfl (wpAny_bind (wpAny_field hos hds (x := vu) rfl (wpAny_bind (wpAny_field hos hds (x := .none) rfl (wpAny_pure ?_)))))))
  refine wpAny_bind (slicePart_none ?_)
  show wpAny _ _ (if ((1 : Int) == 0) = true then _ else _) _ _ s
  rw [if_neg (by decide)]
  refine wpAny_bind (slicePart_ pl (wpAny_bind (slicePart_ pu (wpAny_bind (wpAny_pure ?_)))))
  show wpAny _ _ (match Builtin.Slice.sliceAdjust lo hi 1 (n : Int) with | (lo, hi) => pure (lo, (1 : Int), Builtin.Slice.slicePlaces lo hi 1)) _ _ s
  rw [adjust_gen lo hi n]
  show wpAny _ _ (pure (((sIx n 0 lo : Nat) : Int), (1 : Int), Builtin.Slice.slicePlaces ((sIx n 0 lo : Nat) : Int) ((sIx n n hi : Nat) : Int) 1)) _ _ s
  rw [places_gen]
  exact wpAny_pure h
theorem pick_gen (xs : Array Value) (i k : Nat) : ((List.range k).filterMap fun (m : Nat) => xs[((i : Int) + (m : Int) * 1).toNat]?).toArray = ((xs.toList.drop i).take k).toArray := by
  have e : (fun (m : Nat) => xs[((i : Int) + (m : Int) * 1).toNat]?) = fun m => xs[i + m]? := by
    funext m
    have : ((i : Int) + (m : Int) * 1).toNat = i + m := by omega
    rw [this]
  rw [e]
  have := pick_run xs i k
  rw [List.filterMap_map] at this
  have e2 : ((fun x => xs[x]?) ∘ fun x => i + x) = fun m => xs[i + m]? := rfl
  rw [e2] at this
  rw [this]

theorem getItem_tuple_cut {t sl : Addr} {items : Array Value} {vl vu : Value} {lo hi : Option Int} {Q : Value → Shared → Prop} (ht : IsTup s.heap t items) (hs : s.heap.IsSliceOf sl vl vu .none) (pl : IsPart vl lo) (pu : IsPart vu hi)
    (hw : ¬ (sIx items.size 0 lo = 0 ∧ sIx items.size items.size hi = items.size))
    (h : Q (.ref s.heap.objs.size) { s with heap := s.heap.push { cls := .type "tuple", data := .seq ((items.toList.drop (sIx items.size 0 lo)).take (sIx items.size items.size hi - sIx items.size 0 lo)).toArray } })
    (hsz : items.size ≤ sizeLine) : wpAny (model prog w) A (getItem (.ref t) (.ref sl)) Q E s := by
  have htake : sizeOk (.seq ((items.toList.drop (sIx items.size 0 lo)).take (sIx items.size items.size hi - sIx items.size 0 lo)).toArray) := by
    show ((items.toList.drop (sIx items.size 0 lo)).take (sIx items.size items.size hi - sIx items.size 0 lo)).toArray.size ≤ sizeLine
    rw [List.size_toArray, List.length_take, List.length_drop, Array.length_toList]
    omega
  have hj : sIx items.size items.size hi ≤ items.size := sIx_le _ _ (Nat.le_refl _) hi
  obtain ⟨os, hos, hcs, hds⟩ := id hs
  have hTs : s.TypeIs (.ref sl) "slice" := ⟨os, hos, hcs⟩
  unfold getItem
  try with_reducible refine wpAny_holding ?_
  first | refine wpAny_bind (wpAny_pure ?_) | skip
  refine wpAny_bind (wpAny_sequenceKey ht.typeIs (by decide) ?_)
  refine wpAny_bind (wpAny_callSpecial?_slot (name := Str.ofString "__getitem__") ht.typeIs PyProof.Rows.slot_tuple_getitem
    (wpAny_call_entry PyProof.Rows.slot_tuple_getitem ht.typeIs entry_tuple_getitem ?_ (args_tuple_getitem _ _)))
  show wpAny _ _ (Builtin.Tuple.tupleItemsOf (.ref t) >>= _) _ _ s
  refine wpAny_bind (tupleItemsOf_ ht ?_)
  refine wpAny_bind (wpAny_typeOf hTs ?_)
  rw [if_pos (by decide)]
  refine wpAny_bind (sliceApplied_gen hs pl pu ?_)
  have hno : ¬ ((((sIx items.size 0 lo : Nat) : Int) == 0 && (1 : Int) == 1 && (sIx items.size items.size hi - sIx items.size 0 lo) == items.size) = true) := by
    intro q
    rw [Bool.and_eq_true, Bool.and_eq_true] at q
    have q1 : ((sIx items.size 0 lo : Nat) : Int) = 0 := eq_of_beq q.1.1
    have q2 : sIx items.size items.size hi - sIx items.size 0 lo = items.size := eq_of_beq q.2
    exact hw ⟨by omega, by omega⟩
  show wpAny _ _ (if (((sIx items.size 0 lo : Nat) : Int) == 0 && (1 : Int) == 1 && (sIx items.size items.size hi - sIx items.size 0 lo) == items.size) = true then _ else _) _ _ s
  rw [if_neg hno, pick_gen]
  first
    | exact wpAny_bind (m := Builtin.Tuple.tupleExact _) (wpAny_newObj_type (wpAny_pure ⟨_, rfl, wpAny_pure h⟩) htake)
    | exact wpAny_bind (m := Builtin.Tuple.tupleExact _) (wpAny_newObj_type (wpAny_bind (wpAny_pure (wpAny_pure ⟨_, rfl, wpAny_pure h⟩))) htake)
    | exact wpAny_bind (wpAny_bind (m := Builtin.Tuple.tupleExact _) (wpAny_newObj_type (wpAny_pure (wpAny_pure ⟨_, rfl, wpAny_pure h⟩)) htake))
    | exact wpAny_bind (wpAny_bind (m := Builtin.Tuple.tupleExact _) (wpAny_newObj_type (wpAny_pure ⟨_, rfl, wpAny_pure h⟩) htake))
end
end HT

namespace L2
open PySem PySem.Spec PyProof.Rows

/-! ### the parts of a slice -/
abbrev TO := St → Hp → (Option Int → Hp → Prop) → Prop
/-- a slice's part (left out, or an int) -/
def PO (X : Cx) (e : Option Expr) (t : TO) : Prop :=
  ∀ (pins : List (Addr × Obj)) (s : Shared) (σ : St) (H : Hp) (Q : Option Int → Hp → Prop), Inv X pins σ H s → t σ H Q →
    wpAny (model X.prog X.w) X.A (evalPart e X.env) (fun u s' => ∃ o H', Inv X pins σ H' s' ∧ IsPart u o ∧ Q o H') X.xe s
def tNoPart : TO := fun _ H Q => Q none H
def tPart (t : TE) : TO := fun σ H Q => t σ H fun x H1 => ∃ i, x = .int i ∧ Q (some i) H1

theorem intsAre_of {ns : List Int} : ∀ {us : List Value}, Vals (ns.map V.int) us → IntsAre us ns := by
  induction ns with
  | nil => intro us r; rw [List.map_nil] at r; cases r; exact .nil
  | cons n ns ih =>
    intro us r
    rw [List.map_cons] at r
    cases r with
    | cons r1 r2 =>
      obtain ⟨t, e⟩ := r1
      subst e
      exact .cons n t (ih r2)

section
variable {X : Cx} {e : Expr} {te : TE} {lo hi : Option Expr} {tl th : TO} {pos p2 : Pos}

theorem po_none : PO X none tNoPart := by
  intro pins s σ H Q I h
  rw [evalPart_none]
  exact wpAny_pure ⟨none, H, I, .none, h⟩
theorem po_some (h : PE X e te) : PO X (some e) (tPart te) := by
  intro pins s σ H Q I hw
  rw [evalPart_some]
  refine thn (h pins s σ H _ I hw) fun u s1 ⟨x, H1, I1, r1, q1⟩ => ?_
  obtain ⟨i, rfl, q⟩ := q1
  obtain ⟨t, rfl⟩ := r1
  exact ⟨some i, H1, I1, .int i t, q⟩

/-- what a slice of a value is, by values: the slice object stands at sl -/
def SlR (X : Cx) (r : V → Option Int → Option Int → Hp → VK → Prop) : Prop :=
  ∀ (pins : List (Addr × Obj)) (s : Shared) (σ : St) (H : Hp) (x : V) (v vl vu : Value) (lo hi : Option Int) (sl : Addr) (Q : VK), Inv X pins σ H s → RelV x v → s.heap.IsSliceOf sl vl vu .none → IsPart vl lo → IsPart vu hi → r x lo hi H Q →
    ∃ T id, typeLookup (.type T) "__getitem__" = pure (some (.builtin id)) ∧ s.TypeIs v T ∧ wpAny (model X.prog X.w) X.A (getItem v (.ref sl)) (EP X pins σ Q) X.xe s
theorem SlR.or {r r' : V → Option Int → Option Int → Hp → VK → Prop} (h : SlR X r) (h' : SlR X r') : SlR X (fun x lo hi H Q => r x lo hi H Q ∨ r' x lo hi H Q) := by
  intro pins s σ H x v vl vu lo hi sl Q I rx hs pl pu q
  rcases q with q | q
  · exact h pins s σ H x v vl vu lo hi sl Q I rx hs pl pu q
  · exact h' pins s σ H x v vl vu lo hi sl Q I rx hs pl pu q
def tSl (r : V → Option Int → Option Int → Hp → VK → Prop) (te : TE) (tl th : TO) : TE := fun σ H Q => te σ H fun x H1 => tl σ H1 fun l H2 => th σ H2 fun u H3 => r x l u H3 Q
/-- a[lo:hi], any a -/
theorem pe_slice {r : V → Option Int → Option Int → Hp → VK → Prop} (hr : SlR X r) (he : PE X e te) (hl : PO X lo tl) (hu : PO X hi th) : PE X (.Subscript e (.Slice lo hi none p2) pos) (tSl r te tl th) := by
  intro pins s σ H Q I h
  refine Subscript_ (thn (he pins s σ H _ I h) fun v s1 ⟨x, H1, I1, r1, q1⟩ => ?_)
  refine wpAny_Slice (thn (hl pins s1 σ H1 _ I1 q1) fun vl s2 ⟨l, H2, I2, pl, q2⟩ => thn (hu pins s2 σ H2 _ I2 q2) fun vu s3 ⟨u, H3, I3, pu, q3⟩ => ?_)
  rw [evalPart_none]
  refine wpAny_pure ?_
  have I4 : Inv X pins σ H3 { s3 with heap := s3.heap.push { cls := .type "slice", data := .fields #[vl, vu, .none] } } := I3.kept (t' := s3.toks) fun b ob q => Heap.get?_push_of_some _ q
  obtain ⟨T, id, hT, ht, hg⟩ := hr pins { s3 with heap := s3.heap.push { cls := .type "slice", data := .fields #[vl, vu, .none] } } σ H3 x v vl vu l u s3.heap.objs.size Q I4 r1 (Heap.IsSliceOf.new ..) pl pu q3
  show wpAny (model X.prog X.w) X.A (subscriptTail e (.Slice lo hi none p2) v (.ref s3.heap.objs.size)) (EP X pins σ Q) X.xe { s3 with heap := s3.heap.push { cls := .type "slice", data := .fields #[vl, vu, .none] } }
  exact tail_any (ops := [.ref s3.heap.objs.size, v]) ht hT hg (by with_unfolding_all rfl)

/-- the items of xs[lo:hi] -/
def cutV (xs : List V) (lo hi : Option Int) : List V := (xs.drop (HT.sIx xs.length 0 lo)).take (HT.sIx xs.length xs.length hi - HT.sIx xs.length 0 lo)
theorem cutV_length (xs : List V) (lo hi : Option Int) : (cutV xs lo hi).length ≤ xs.length := by
  unfold cutV
  rw [List.length_take, List.length_drop]
  omega
/-- t[lo:hi], not the whole of it (the whole would be t itself) -/
def rSlT (K : PySem.W.Frag) : V → Option Int → Option Int → Hp → VK → Prop := fun x lo hi H Q => ∃ a xs, x = .ref a ∧ SqT K H a xs ∧
  ¬ (HT.sIx xs.length 0 lo = 0 ∧ HT.sIx xs.length xs.length hi = xs.length) ∧ ∀ p, H p = none → Q (.ref p) (upd H p (.tup (cutV xs lo hi)))
theorem sl_tup : SlR X (rSlT X.K) := by
  intro pins s σ H x v vl vu lo hi sl Q I rx hs pl pu h
  obtain ⟨a, xs, rfl, hx, hw, q⟩ := h
  cases rx
  obtain ⟨its, r, ht, hz⟩ := I.tuple hx
  have hlen : its.toArray.size = xs.length := by rw [List.size_toArray]; exact r.length.symm
  refine ⟨"tuple", _, PyProof.Rows.slot_tuple_getitem.lookup, ht.typeIs, ?_⟩
  refine HT.getItem_tuple_cut ht hs pl pu (by rw [hlen]; exact hw) ?_ (by rw [hlen]; exact hz)
  rw [hlen]
  refine ⟨.ref s.heap.objs.size, _, I.laid (t' := s.toks) (o := .tup (cutV xs lo hi)) (fun b ob q => Heap.get?_push_of_some _ q) (Nat.le_refl _) ?_, rfl, q _ (I.hok.fresh (Nat.le_refl _))⟩
  exact ⟨Nat.le_trans (cutV_length xs lo hi) hz, _, (r.drop (HT.sIx xs.length 0 lo)).take (HT.sIx xs.length xs.length hi - HT.sIx xs.length 0 lo), IsTup.new _ _⟩

/-! ### t < u, t + u -/
def rLtT (K : PySem.W.Frag) : R2 := fun x y H Q => ∃ a b ns ms, x = .ref a ∧ y = .ref b ∧ SqT K H a (ns.map V.int) ∧ SqT K H b (ms.map V.int) ∧ Q (.bl (HT.lexLt ns ms)) H
theorem op_ltT (hu : X.A.units < cLine) : OpR X (compareOp .Lt) (rLtT X.K) := by
  intro pins s σ H x y v u Q I rx ry h
  obtain ⟨a, b, ns, ms, rfl, rfl, ha, hb, q⟩ := h
  cases rx
  cases ry
  obtain ⟨its, r1, p1, _⟩ := I.tuple ha
  obtain ⟨its2, r2, p2, _⟩ := I.tuple hb
  have i1 : IntsAre its.toArray.toList ns := intsAre_of r1
  have i2 : IntsAre its2.toArray.toList ms := intsAre_of r2
  exact HT.lt_tupInts p1 p2 i1 i2 hu ⟨.bl (HT.lexLt ns ms), H, I, rfl, q⟩
/-- t + u, t not empty: u empty gives t itself -/
def rCatT (K : PySem.W.Frag) : R2 := fun x y H Q => ∃ a b xs ys, x = .ref a ∧ y = .ref b ∧ SqT K H a xs ∧ SqT K H b ys ∧ xs ≠ [] ∧ xs.length + ys.length ≤ sizeLine ∧
  (ys = [] → Q (.ref a) H) ∧ (ys ≠ [] → ∀ p, H p = none → Q (.ref p) (upd H p (.tup (xs ++ ys))))
theorem Vals.nil_iff {xs : List V} {us : List Value} (r : Vals xs us) : us = [] ↔ xs = [] := by
  cases r with
  | nil => simp
  | cons _ _ => simp
theorem op_catT : OpR X (binaryOp .Add) (rCatT X.K) := by
  intro pins s σ H x y v u Q I rx ry h
  obtain ⟨a, b, xs, ys, rfl, rfl, ha, hb, hx, hz, q1, q2⟩ := h
  cases rx
  cases ry
  obtain ⟨its, r1, p1, _⟩ := I.tuple ha
  obtain ⟨its2, r2, p2, _⟩ := I.tuple hb
  refine HT.cat_tup p1 p2 (fun z => hx (r1.nil_iff.mp z)) (fun z => ⟨.ref a, H, I, rfl, q1 (r2.nil_iff.mp z)⟩) (fun z => ?_) (by rw [← r1.length, ← r2.length]; exact hz)
  refine ⟨.ref s.heap.objs.size, _, I.laid (t' := s.toks) (o := .tup (xs ++ ys)) (fun b ob q => Heap.get?_push_of_some _ q) (Nat.le_refl _) ?_, rfl, q2 (fun w => z (r2.nil_iff.mpr w)) _ (I.hok.fresh (Nat.le_refl _))⟩
  exact ⟨by rw [List.length_append]; exact hz, _, r1.append r2, IsTup.new _ _⟩
/-- tuple(t) -/
theorem call_tupleT : CallR X (.type "tuple") (fun xs H Q => ∃ a ys, xs = [.ref a] ∧ SqT X.K H a ys ∧ Q (.ref a) H) := by
  intro pins s σ H xs us Q I r h
  obtain ⟨a, ys, rfl, ha, q⟩ := h
  obtain ⟨u, rfl, ru⟩ := vals1 r
  cases ru
  obtain ⟨its, _, p1, _⟩ := I.tuple ha
  exact call_tuple_same (items := its.toArray) p1 ⟨.ref a, H, I, rfl, q⟩
end
end L2

namespace L2
open PySem PySem.Spec PyProof.Rows

/-! ### places -/
/-- the place that an index of any sign means -/
def ixN (n : Nat) (i : Int) : Option Nat := if 0 ≤ i then (if i < n then some i.toNat else none) else if -(n : Int) ≤ i then some (i + n).toNat else none
def atI {α : Type} (xs : List α) (i : Int) : Option α := (ixN xs.length i).bind fun j => xs[j]?
theorem ixN_seq {n : Nat} {i : Int} {j : Nat} (h : ixN n i = some j) : seqIndex? i n = some j ∧ j < n ∧ -(n : Int) ≤ i ∧ i < n := by
  unfold ixN at h
  by_cases h0 : 0 ≤ i
  · rw [if_pos h0] at h
    by_cases h1 : i < n
    · rw [if_pos h1] at h
      have e : i.toNat = j := Option.some.inj h
      exact ⟨by rw [seqIndex_of h0 h1, e], by omega, by omega, h1⟩
    · rw [if_neg h1] at h; cases h
  · rw [if_neg h0] at h
    by_cases h1 : -(n : Int) ≤ i
    · rw [if_pos h1] at h
      have e : (i + n).toNat = j := Option.some.inj h
      exact ⟨by rw [seqIndex_neg (by omega) h1, e], by omega, h1, by omega⟩
    · rw [if_neg h1] at h; cases h
theorem atI_get {α : Type} {xs : List α} {i : Int} {v : α} (h : atI xs i = some v) : ∃ j, seqIndex? i xs.length = some j ∧ xs[j]? = some v ∧ j < xs.length ∧ -(xs.length : Int) ≤ i ∧ i < xs.length := by
  unfold atI at h
  cases e : ixN xs.length i with
  | none => rw [e] at h; cases h
  | some j =>
    rw [e] at h
    obtain ⟨h1, h2, h3, h4⟩ := ixN_seq e
    exact ⟨j, h1, h, h2, h3, h4⟩
theorem atI_nat {α : Type} {xs : List α} {j : Nat} {v : α} (h : xs[j]? = some v) : atI xs (j : Int) = some v := by
  have hj : j < xs.length := (List.getElem?_eq_some_iff.mp h).1
  have e : ixN xs.length (j : Int) = some j := by
    unfold ixN
    rw [if_pos (by omega), if_pos (by omega)]; simp
  unfold atI; rw [e]; exact h
theorem atI_last {α : Type} (xs : List α) (v : α) : atI (xs ++ [v]) (-1) = some v := by
  have hl : (xs ++ [v]).length = xs.length + 1 := by simp
  have e : ixN (xs ++ [v]).length (-1) = some xs.length := by
    unfold ixN
    rw [hl, if_neg (by decide), if_pos (by omega)]
    congr 1
    omega
  unfold atI
  rw [e]
  show (xs ++ [v])[xs.length]? = some v
  simp

/-! ### what may be subscripted -/
/-- what stands as an index of a plain subscript -/
def PlainIx (b : Expr) : Prop := ∀ o i, subscripted b false o i = operate [o, i] (getItem o i)
/-- a subscript by values -/
def IxR (X : Cx) (r : R2) : Prop :=
  ∀ (value slice : Expr) (pins : List (Addr × Obj)) (s : Shared) (σ : St) (H : Hp) (x y : V) (v u : Value) (Q : VK), Inv X pins σ H s → RelV x v → RelV y u → r x y H Q →
    subscripted slice false v u = operate [v, u] (getItem v u) → wpAny (model X.prog X.w) X.A (subscriptTail value slice v u) (EP X pins σ Q) X.xe s
/-- a call of a builtin's method by values: the receiver, the arguments -/
def MtR (X : Cx) (id : String) (r : V → List V → Hp → VK → Prop) : Prop :=
  ∀ (pins : List (Addr × Obj)) (s : Shared) (σ : St) (H : Hp) (x : V) (xs : List V) (v : Value) (us : List Value) (Q : VK), Inv X pins σ H s → RelV x v → Vals xs us → r x xs H Q →
    wpAny (model X.prog X.w) X.A (call (.builtin id) (v :: us)) (EP X pins σ Q) X.xe s
section
variable {X : Cx} {a b : Expr} {ta tb : TE} {pos : Pos}
theorem IxR.or {r r' : R2} (h : IxR X r) (h' : IxR X r') : IxR X (fun x y H Q => r x y H Q ∨ r' x y H Q) := by
  intro value slice pins s σ H x y v u Q I rx ry q hs
  rcases q with q | q
  · exact h value slice pins s σ H x y v u Q I rx ry q hs
  · exact h' value slice pins s σ H x y v u Q I rx ry q hs
theorem MtR.or {id : String} {r r' : V → List V → Hp → VK → Prop} (h : MtR X id r) (h' : MtR X id r') : MtR X id (fun x xs H Q => r x xs H Q ∨ r' x xs H Q) := by
  intro pins s σ H x xs v us Q I rx rs q
  rcases q with q | q
  · exact h pins s σ H x xs v us Q I rx rs q
  · exact h' pins s σ H x xs v us Q I rx rs q
/-- a[b] -/
theorem pe_ix {r : R2} (hr : IxR X r) (ha : PE X a ta) (hb : PE X b tb) (hs : PlainIx b) : PE X (.Subscript a b pos) (tOp r ta tb) := by
  intro pins s σ H Q I h
  exact Subscript_ (binT ha hb I h fun v u s2 x y H2 I2 rx ry q => hr a b pins s2 σ H2 x y v u Q I2 rx ry q (hs _ _))

def rIxL (K : PySem.W.Frag) : R2 := fun x y H Q => ∃ p xs i v, x = .ref p ∧ y = .int i ∧ SqL K H p xs ∧ atI xs i = some v ∧ Q v H
def rIxT (K : PySem.W.Frag) : R2 := fun x y H Q => ∃ p xs i v, x = .ref p ∧ y = .int i ∧ SqT K H p xs ∧ atI xs i = some v ∧ Q v H
def rIxS : R2 := fun x y H Q => ∃ z i c, x = .str z ∧ y = .int i ∧ z.length ≤ sizeLine ∧ atI z.cps.toList i = some c ∧ Q (.str ⟨#[c]⟩) H
theorem ix_list : IxR X (rIxL X.K) := by
  intro value slice pins s σ H x y v u Q I rx ry h hs
  obtain ⟨p, xs, i, z, rfl, rfl, hq, he, q⟩ := h
  cases rx
  obtain ⟨t, rfl⟩ := ry
  obtain ⟨its, r, pl, hz⟩ := I.list hq
  obtain ⟨j, h1, h2, h3, h4, h5⟩ := atI_get he
  obtain ⟨w, ew, rw'⟩ := r.get h2
  have hl := r.length
  have hn := line63
  have fin : EP X pins σ Q w s := ⟨z, H, I, rw', q⟩
  by_cases h0 : 0 ≤ i
  · have hj : i.toNat = j := by
      rw [seqIndex_of h0 h5] at h1
      exact Option.some.inj h1
    exact item_listR pl.isList h0 (by omega) (by rw [hj]; simpa using ew) fin hs
  · have hj : (i + (its.toArray.size : Int)).toNat = j := by
      rw [seqIndex_neg (by omega) h4] at h1
      rw [List.size_toArray, ← hl]
      exact Option.some.inj h1
    exact subscriptTail_builtinR (x := w) pl.isList.typeIs slot_list_getitem.lookup
      (wpAny_getItem_list_neg (Q := fun r s' => r = w ∧ EP X pins σ Q r s') pl.isList (by omega) (by rw [List.size_toArray] <;> omega) (by omega) (by rw [hj]; simpa using ew) ⟨rfl, fin⟩) hs
theorem ix_tup : IxR X (rIxT X.K) := by
  intro value slice pins s σ H x y v u Q I rx ry h hs
  obtain ⟨p, xs, i, z, rfl, rfl, hq, he, q⟩ := h
  cases rx
  obtain ⟨t, rfl⟩ := ry
  obtain ⟨its, r, pl, hz⟩ := I.tuple hq
  obtain ⟨j, h1, h2, h3, h4, h5⟩ := atI_get he
  obtain ⟨w, ew, rw'⟩ := r.get h2
  have hl := r.length
  have hn := line63
  have fin : EP X pins σ Q w s := ⟨z, H, I, rw', q⟩
  exact subscriptTail_builtinR (x := w) pl.typeIs slot_tuple_getitem.lookup
    (getItem_tuple (j := j) (Q := fun r s' => r = w ∧ EP X pins σ Q r s') pl (by omega) (by omega) (by rw [List.size_toArray, ← hl]; exact h1) (by simpa using ew) ⟨rfl, fin⟩) hs
theorem ix_str : IxR X rIxS := by
  intro value slice pins s σ H x y v u Q I rx ry h hs
  obtain ⟨z, i, c, rfl, rfl, hz, he, q⟩ := h
  obtain ⟨t, rfl⟩ := rx
  obtain ⟨t', rfl⟩ := ry
  obtain ⟨j, h1, h2, h3, h4, h5⟩ := atI_get he
  have hl : z.cps.toList.length = z.length := by simp [Str.length]
  rw [hl] at h1 h4 h5
  have hn := line63
  exact tail_any (typeIs_str s z t) slot_str_getitem.lookup (getItem_str (c := c) (by
    have e1 : decide (i < -(2 ^ 63 : Int)) = false := decide_eq_false (by omega)
    have e2 : decide (i ≥ 2 ^ 63) = false := decide_eq_false (by omega)
    rw [e1, e2, Bool.or_false]) (by rw [h1]; simpa using h2) ⟨.str ⟨#[c]⟩, H, I.tok _, ⟨_, rfl⟩, q⟩) hs
/-- list, tuple or str -/
def rIx (K : PySem.W.Frag) : R2 := fun x y H Q => rIxL K x y H Q ∨ rIxT K x y H Q ∨ rIxS x y H Q
theorem ix_seq : IxR X (rIx X.K) := ix_list.or (ix_tup.or ix_str)

/-! ### xs[i] = v, any sign -/
/-- the list's object behind a store -/
theorem mapSeq_set (its : List Value) (n j : Nat) (u : Value) : Obj.mapSeq (·.setIfInBounds j u) { cls := .type "list", data := .seq its.toArray n } = { cls := .type "list", data := .seq (its.set j u).toArray n } := by
  simp [Obj.mapSeq]
theorem Inv.lst {pins : List (Addr × Obj)} {σ : St} {H : Hp} {s : Shared} {p : Addr} {xs : List V} (I : Inv X pins σ H s) (h : H p = some (.lst xs)) :
    ∃ (its : List Value) (n : Nat), Vals xs its ∧ s.heap.get? p = some { cls := .type "list", data := .seq its.toArray n } ∧ xs.length ≤ sizeLine := by
  obtain ⟨z, its, n, r, e⟩ := I.hok p _ h
  exact ⟨its, n, r, e, z⟩
/-- the list at p is written by an update of its object -/
theorem Inv.lstUpd {pins : List (Addr × Obj)} {σ : St} {H : Hp} {s : Shared} {p : Addr} {xs ys : List V} {its its' : List Value} {n n' : Nat} {f : Obj → Obj} (I : Inv X pins σ H s) (h : H p = some (.lst xs))
    (ho : s.heap.get? p = some { cls := .type "list", data := .seq its.toArray n }) (hf : f { cls := .type "list", data := .seq its.toArray n } = { cls := .type "list", data := .seq its'.toArray n' }) (r : Vals ys its') (hz : ys.length ≤ sizeLine) (t : Nat) :
    Inv X pins σ (upd H p (.lst ys)) { s with heap := s.heap.update p f, toks := t } := by
  have e : (s.heap.update p f).get? p = some { cls := .type "list", data := .seq its'.toArray n' } := by
    rw [Heap.get?_update_self f ho (by rw [hf] <;> rfl), hf]
  refine I.write (x := p) (e := p) (by rw [h]; trivial) (.inl rfl) (fun b u hb q => (Heap.get?_update_other _ _ (Ne.symm hb)).trans q) ⟨_, e⟩ ?_
  exact ⟨hz, its', n', r, e⟩
def rSetL : V → V → V → Hp → (Hp → Prop) → Prop := fun o i v H Q => ∃ p xs k j, o = .ref p ∧ i = .int k ∧ H p = some (.lst xs) ∧ ixN xs.length k = some j ∧ Q (upd H p (.lst (xs.set j v)))
theorem set_list : PSet X rSetL := by
  intro pins s σ H o i v ov iv u Q I ro ri rv h
  obtain ⟨p, xs, k, j, rfl, rfl, hp, hj, q⟩ := h
  cases ro
  obtain ⟨t, rfl⟩ := ri
  obtain ⟨its, n, r, ho, hz⟩ := I.lst hp
  obtain ⟨h1, h2, h3, h4⟩ := ixN_seq hj
  have hl := r.length
  have hn := line63
  have I' : Inv X pins σ (upd H p (.lst (xs.set j v))) { s with heap := s.heap.update p (Obj.mapSeq (·.setIfInBounds j u)) } :=
    I.lstUpd hp ho (mapSeq_set its n j u) (r.set rv j) (by rw [List.length_set]; exact hz) s.toks
  by_cases h0 : 0 ≤ k
  · have hk : k.toNat = j := by
      rw [seqIndex_of h0 h4] at h1
      exact Option.some.inj h1
    exact PySem.W.ki_setAt ho h0 (by omega) (by rw [List.size_toArray, ← hl]; exact h4) (by rw [hk]; exact ⟨_, I', q⟩)
  · have hk : (k + (its.toArray.size : Int)).toNat = j := by
      rw [seqIndex_neg (by omega) h3] at h1
      rw [List.size_toArray, ← hl]
      exact Option.some.inj h1
    exact PySem.W.ki_setBack ho (by omega) (by rw [List.size_toArray, ← hl]; exact h3) (by omega) (by rw [hk]; exact ⟨_, I', q⟩)

/-! ### slices -/
theorem slice_bounds (lo hi : Option Int) (n : Nat) : (sliceBounds lo hi none n).1 = ((HT.sIx n 0 lo : Nat) : Int) ∧ (sliceBounds lo hi none n).2.1 = ((HT.sIx n n hi : Nat) : Int) ∧ (sliceBounds lo hi none n).2.2 = 1 := by
  refine ⟨?_, ?_, rfl⟩
  · cases lo with
    | none => simp [sliceBounds, HT.sIx]
    | some i =>
      simp only [sliceBounds, HT.sIx, Option.getD_none, show (1 : Int) > 0 by decide, if_true]
      by_cases h : i < 0
      · simp only [h, if_true] <;> omega
      · simp only [h, if_false] <;> omega
  · cases hi with
    | none => simp [sliceBounds, HT.sIx]
    | some i =>
      simp only [sliceBounds, HT.sIx, Option.getD_none, show (1 : Int) > 0 by decide, if_true]
      by_cases h : i < 0
      · simp only [h, if_true] <;> omega
      · simp only [h, if_false] <;> omega
theorem slicePick_cut (its : List Value) (lo hi : Option Int) : slicePick its.toArray lo hi none = ((its.drop (HT.sIx its.length 0 lo)).take (HT.sIx its.length its.length hi - HT.sIx its.length 0 lo)).toArray := by
  obtain ⟨h1, h2, h3⟩ := slice_bounds lo hi its.toArray.size
  unfold slicePick
  rw [h1, h2, h3]
  simp only [sliceRange_one, pick_run, List.size_toArray] <;> rfl
/-- xs[lo:hi] of a list: a new list -/
def rSlL (K : PySem.W.Frag) : V → Option Int → Option Int → Hp → VK → Prop := fun x lo hi H Q => ∃ a xs, x = .ref a ∧ SqL K H a xs ∧ ∀ p, H p = none → Q (.ref p) (upd H p (.lst (cutV xs lo hi)))
theorem sl_list : SlR X (rSlL X.K) := by
  intro pins s σ H x v vl vu lo hi sl Q I rx hs pl pu h
  obtain ⟨a, xs, rfl, hx, q⟩ := h
  cases rx
  obtain ⟨its, r, ht, hz⟩ := I.list hx
  have hlen := r.length
  refine ⟨"list", _, slot_list_getitem.lookup, ht.isList.typeIs, ?_⟩
  refine wpAny_getItem_list_slice ht.isList hs pl pu .none (by simp) ?_ (by rw [List.size_toArray] <;> omega)
  rw [slicePick_cut, ← hlen]
  refine ⟨.ref s.heap.objs.size, _, I.laid (t' := s.toks) (o := .lst (cutV xs lo hi)) (fun b ob q => Heap.get?_push_of_some _ q) (Nat.le_refl _) ?_, rfl, q _ (I.hok.fresh (Nat.le_refl _))⟩
  exact ⟨Nat.le_trans (cutV_length xs lo hi) hz, _, 0, (r.drop (HT.sIx xs.length 0 lo)).take (HT.sIx xs.length xs.length hi - HT.sIx xs.length 0 lo), Heap.get?_push_size _ rfl⟩

/-! ### in, not in: flat items -/
def flatV : V → Bool
  | .non => true
  | .bl _ => true
  | .int _ => true
  | .str _ => true
  | _ => false
/-- == of flat values -/
def eqV : V → V → Bool
  | .non, .non => true
  | .bl a, .bl b => a == b
  | .bl a, .int b => (if a then 1 else 0) == b
  | .int a, .bl b => a == (if b then 1 else 0)
  | .int a, .int b => a == b
  | .str a, .str b => a == b
  | _, _ => false
theorem eqAt_V {A : Around} {s : Shared} {y x : V} {u v : Value} (ry : RelV y u) (rx : RelV x v) (fy : flatV y = true) (fx : flatV x = true) : SeqAt.EqAt A s u v (eqV y x) := by
  cases y with
  | non =>
    cases ry
    cases x with
    | non => cases rx; exact SeqAt.EqAt.same _
    | bl b => cases rx; exact SeqAt.EqAt.none_bool b
    | int b => obtain ⟨t, rfl⟩ := rx; exact SeqAt.EqAt.none_int b t
    | str b => obtain ⟨t, rfl⟩ := rx; exact SeqAt.EqAt.none_str b t
    | _ => exact absurd (show false = true from fx) Bool.false_ne_true
  | bl a =>
    cases ry
    cases x with
    | non => cases rx; exact SeqAt.EqAt.bool_none a
    | bl b => cases rx; exact SeqAt.EqAt.bool_bool a b
    | int b => obtain ⟨t, rfl⟩ := rx; exact SeqAt.EqAt.bool_int a b t
    | str b => obtain ⟨t, rfl⟩ := rx; exact SeqAt.EqAt.bool_str a b t
    | _ => exact absurd (show false = true from fx) Bool.false_ne_true
  | int a =>
    obtain ⟨t', rfl⟩ := ry
    cases x with
    | non => cases rx; exact SeqAt.EqAt.int_none a t'
    | bl b => cases rx; exact SeqAt.EqAt.int_bool a t' b
    | int b => obtain ⟨t, rfl⟩ := rx; exact SeqAt.EqAt.int_int a t' b t
    | str b => obtain ⟨t, rfl⟩ := rx; exact SeqAt.EqAt.int_str a t' b t
    | _ => exact absurd (show false = true from fx) Bool.false_ne_true
  | str a =>
    obtain ⟨t', rfl⟩ := ry
    cases x with
    | non => cases rx; exact SeqAt.EqAt.str_none a t'
    | bl b => cases rx; exact SeqAt.EqAt.str_bool a t' b
    | int b => obtain ⟨t, rfl⟩ := rx; exact SeqAt.EqAt.str_int a t' b t
    | str b => obtain ⟨t, rfl⟩ := rx; exact SeqAt.EqAt.str_str a t' b t
    | _ => exact absurd (show false = true from fx) Bool.false_ne_true
  | _ => exact absurd (show false = true from fy) Bool.false_ne_true
/-- the items' answers, read off the values (a value's own answer does not lean on its token) -/
def eqU (x : V) (u : Value) : Bool := match u with
  | .none => eqV .non x
  | .bool b => eqV (.bl b) x
  | .int i _ => eqV (.int i) x
  | .str z _ => eqV (.str z) x
  | _ => false
theorem eqU_of {x y : V} {u : Value} (r : RelV y u) (f : flatV y = true) : eqU x u = eqV y x := by
  cases y with
  | non => cases r; rfl
  | bl b => cases r; rfl
  | int i => obtain ⟨t, rfl⟩ := r; rfl
  | str z => obtain ⟨t, rfl⟩ := r; rfl
  | _ => exact absurd (show false = true from f) Bool.false_ne_true
theorem any_eqU {x : V} : ∀ {xs : List V} {us : List Value}, Vals xs us → xs.all flatV = true → us.any (eqU x) = xs.any fun y => eqV y x
  | _, _, .nil, _ => rfl
  | y :: xs, u :: us, .cons r t, f => by
    rw [List.all_cons, Bool.and_eq_true] at f
    rw [List.any_cons, List.any_cons, eqU_of r f.1, any_eqU t f.2]
theorem mem_eqAt {A : Around} {s : Shared} {x : V} {v : Value} (rx : RelV x v) (fx : flatV x = true) : ∀ {xs : List V} {us : List Value}, Vals xs us → xs.all flatV = true → ∀ u ∈ us, SeqAt.EqAt A s u v (eqU x u)
  | _, _, .nil, _ => fun u hu => by cases hu
  | y :: xs, u :: us, .cons r t, f => fun u' hu => by
    rw [List.all_cons, Bool.and_eq_true] at f
    rcases List.mem_cons.mp hu with rfl | hu
    · rw [eqU_of r f.1]; exact eqAt_V r rx f.1 fx
    · exact mem_eqAt rx fx t f.2 u' hu
def inV (x : V) (xs : List V) : Bool := xs.any fun y => eqV y x
/-- x in a list or tuple of flat items -/
def rIn (K : PySem.W.Frag) (neg : Bool) : R2 := fun x y H Q => ∃ p xs, y = .ref p ∧ (SqL K H p xs ∨ SqT K H p xs) ∧ flatV x = true ∧ xs.all flatV = true ∧ Q (.bl (if neg then !inV x xs else inV x xs)) H
theorem op_in_seq : OpR X (compareOp .In) (rIn X.K false) := by
  intro pins s σ H x y v u Q I rx ry h
  obtain ⟨p, xs, rfl, hq, fx, fs, q⟩ := h
  cases ry
  rcases hq with hq | hq
  · obtain ⟨its, r, pl, hz⟩ := I.list hq
    refine SeqAt.in_listAt (eqU x) pl.isList (fun w hw => mem_eqAt rx fx r fs w (by simpa using hw)) ⟨.bl _, H, I, rfl, ?_⟩
    rw [show its.toArray.any (eqU x) = its.any (eqU x) by simp, any_eqU r fs]
    exact q
  · obtain ⟨its, r, pl, hz⟩ := I.tuple hq
    refine SeqAt.in_tupleAt (eqU x) pl (fun w hw => mem_eqAt rx fx r fs w (by simpa using hw)) ⟨.bl _, H, I, rfl, ?_⟩
    rw [show its.toArray.any (eqU x) = its.any (eqU x) by simp, any_eqU r fs]
    exact q
theorem op_notIn_seq : OpR X (compareOp .NotIn) (rIn X.K true) := by
  intro pins s σ H x y v u Q I rx ry h
  obtain ⟨p, xs, rfl, hq, fx, fs, q⟩ := h
  cases ry
  rcases hq with hq | hq
  · obtain ⟨its, r, pl, hz⟩ := I.list hq
    refine SeqAt.notIn_listAt (eqU x) pl.isList (fun w hw => mem_eqAt rx fx r fs w (by simpa using hw)) ⟨.bl _, H, I, rfl, ?_⟩
    rw [show its.toArray.any (eqU x) = its.any (eqU x) by simp, any_eqU r fs]
    exact q
  · obtain ⟨its, r, pl, hz⟩ := I.tuple hq
    refine SeqAt.notIn_tupleAt (eqU x) pl (fun w hw => mem_eqAt rx fx r fs w (by simpa using hw)) ⟨.bl _, H, I, rfl, ?_⟩
    rw [show its.toArray.any (eqU x) = its.any (eqU x) by simp, any_eqU r fs]
    exact q
theorem op_notIn_str : OpR X (compareOp .NotIn) (fun x y H Q => ∃ i j, x = .str i ∧ y = .str j ∧ Q (.bl (!(!(Builtin.Str.occurrences j i 0 j.length 1).isEmpty))) H) := by
  intro pins s σ H x y v u Q I rx ry h
  obtain ⟨i, j, rfl, rfl, q⟩ := h
  obtain ⟨t, rfl⟩ := rx
  obtain ⟨t', rfl⟩ := ry
  exact notIn_str ⟨.bl _, H, I, rfl, q⟩

/-! ### len, list(x), tuple(x) of any list or tuple that is read -/
theorem call_len_seq : CallR X (.builtin "len") (fun xs H Q => ∃ p ys, xs = [.ref p] ∧ (SqL X.K H p ys ∨ SqT X.K H p ys) ∧ Q (.int ys.length) H) := by
  intro pins s σ H xs us Q I r h
  obtain ⟨p, ys, rfl, hq, q⟩ := h
  obtain ⟨u, rfl, rx⟩ := vals1 r
  cases rx
  have hn := line63
  rcases hq with hq | hq
  · obtain ⟨its, r', pl, hz⟩ := I.list hq
    have hlen := r'.length
    exact Calls.call_len_list pl.isList (by simp only [List.size_toArray] <;> omega) ⟨.int ys.length, H, I.tok _, ⟨s.toks + 1, by rw [List.size_toArray, hlen]⟩, q⟩
  · obtain ⟨its, r', pl, hz⟩ := I.tuple hq
    have hlen := r'.length
    exact len_tuple pl (by simp only [List.size_toArray] <;> omega) ⟨.int ys.length, H, I.tok _, ⟨s.toks + 1, by rw [List.size_toArray, hlen]⟩, q⟩
theorem call_len_str : CallR X (.builtin "len") (fun xs H Q => ∃ z, xs = [.str z] ∧ z.length ≤ sizeLine ∧ Q (.int z.length) H) := by
  intro pins s σ H xs us Q I r h
  obtain ⟨z, rfl, hz, q⟩ := h
  obtain ⟨u, rfl, t, rfl⟩ := vals1 r
  have hn := line63
  exact len_str (by omega) ⟨.int z.length, H, I.tok _, ⟨_, rfl⟩, q⟩
theorem CallR.or {f : Value} {r r' : List V → Hp → VK → Prop} (h : CallR X f r) (h' : CallR X f r') : CallR X f (fun xs H Q => r xs H Q ∨ r' xs H Q) := by
  intro pins s σ H xs us Q I rs q
  rcases q with q | q
  · exact h pins s σ H xs us Q I rs q
  · exact h' pins s σ H xs us Q I rs q
theorem call_list_of : CallR X (.type "list") (fun xs H Q => ∃ p ys, xs = [.ref p] ∧ (SqL X.K H p ys ∨ SqT X.K H p ys) ∧ ∀ l, H l = none → Q (.ref l) (upd H l (.lst ys))) := by
  intro pins s σ H xs us Q I r h
  obtain ⟨p, ys, rfl, hq, q⟩ := h
  obtain ⟨u, rfl, rx⟩ := vals1 r
  cases rx
  have fin : ∀ (its : List Value), Vals ys its → ys.length ≤ sizeLine → ∀ (h' : Heap) (c' : Nat), (∀ b o', s.heap.get? b = some o' → h'.get? b = some o') →
      h'.get? s.heap.objs.size = some { cls := .type "list", dict := none, data := .seq its.toArray c', slots := #[] } → EP X pins σ Q (.ref s.heap.objs.size) { s with heap := h' } := fun its r' hz h' c' kp e =>
    ⟨.ref s.heap.objs.size, _, I.laid (t' := s.toks) kp (Nat.le_refl _) (show ObjOk X.prog X.w _ h' _ (.lst ys) from ⟨hz, its, c', r', e⟩), rfl, q _ (I.hok.fresh (Nat.le_refl _))⟩
  rcases hq with hq | hq
  · obtain ⟨its, r', pl, hz⟩ := I.list hq
    have hlen := r'.length
    obtain ⟨o, ho, hc, n, hd⟩ := pl.isList
    exact call_list_seq p (.inl rfl) ho hc hd (fun h' c' kp e => fin its r' hz h' c' kp e) (by simp only [List.size_toArray] <;> omega)
  · obtain ⟨its, r', pl, hz⟩ := I.tuple hq
    have hlen := r'.length
    obtain ⟨o, ho, hc, n, hd⟩ := pl
    exact call_list_seq p (.inr rfl) ho hc hd (fun h' c' kp e => fin its r' hz h' c' kp e) (by simp only [List.size_toArray] <;> omega)
theorem call_tuple_of : CallR X (.type "tuple") (fun xs H Q => ∃ p ys, xs = [.ref p] ∧ ((SqL X.K H p ys ∧ ∀ l, H l = none → Q (.ref l) (upd H l (.tup ys))) ∨ (SqT X.K H p ys ∧ Q (.ref p) H))) := by
  intro pins s σ H xs us Q I r h
  obtain ⟨p, ys, rfl, h⟩ := h
  obtain ⟨u, rfl, rx⟩ := vals1 r
  cases rx
  rcases h with ⟨hq, q⟩ | ⟨hq, q⟩
  · obtain ⟨its, r', pl, hz⟩ := I.list hq
    have hlen := r'.length
    refine call_tuple_list pl.isList (fun h' kp => ?_) (by simp only [List.size_toArray] <;> omega)
    have I1 : Inv X pins σ H { s with heap := h' } := I.kept (t' := s.toks) kp
    have I2 : Inv X pins σ (upd H h'.objs.size (.tup ys)) { s with heap := h'.push { cls := .type "tuple", data := .seq its.toArray } } :=
      I1.laid (t' := s.toks) (fun b o e => Heap.get?_push_of_some _ e) (Nat.le_refl _) (show ObjOk X.prog X.w _ _ _ (.tup ys) from ⟨hz, its, r', IsTup.new _ _⟩)
    exact ⟨.ref h'.objs.size, _, I2, rfl, q _ (I1.hok.fresh (Nat.le_refl _))⟩
  · obtain ⟨its, r', pl, hz⟩ := I.tuple hq
    exact call_tuple_same pl ⟨.ref p, H, I, rfl, q⟩

/-! ### the call of a builtin's method: o.m(..) -/
/-- the value is of that builtin type -/
def tyV (K : PySem.W.Frag) (T : String) (x : V) (H : Hp) : Prop := match x with
  | .str _ => T = "str"
  | .int _ => T = "int"
  | .ref p => (T = "list" ∧ ∃ xs, SqL K H p xs) ∨ (T = "tuple" ∧ ∃ o, K.lookup p = some o ∧ o.cls = .type "tuple" ∧ o.dict = none) ∨
      (T = "dict" ∧ ((∃ kvs, H p = some (.dK kvs)) ∨ ∃ kvs, H p = some (.dT kvs))) ∨ (T = "set" ∧ ∃ S n, H p = some (.set S n))
  | _ => False
theorem tyV_is {pins : List (Addr × Obj)} {σ : St} {H : Hp} {s : Shared} {T : String} {x : V} {v : Value} (I : Inv X pins σ H s) (r : RelV x v) (ty : tyV X.K T x H) :
    s.TypeIs v T ∧ ∀ a, v = .ref a → ∃ ob, s.heap.get? a = some ob ∧ ob.dict = none := by
  cases x with
  | str z =>
    obtain ⟨t, rfl⟩ := r
    cases (show T = "str" from ty)
    exact ⟨typeIs_str s z t, fun _ e => nomatch e⟩
  | int i =>
    obtain ⟨t, rfl⟩ := r
    cases (show T = "int" from ty)
    exact ⟨typeIs_int s i t, fun _ e => nomatch e⟩
  | ref p =>
    cases r
    rcases ty with ⟨rfl, xs, hq⟩ | ⟨rfl, o, hk, hc, hd⟩ | ⟨rfl, hk⟩ | ⟨rfl, S, n, hk⟩
    · obtain ⟨its, _, pl, _⟩ := I.list hq
      refine ⟨pl.isList.typeIs, fun a e => ?_⟩
      cases e
      obtain ⟨o, n, e, c, hd, _⟩ := pl
      exact ⟨o, e, hd⟩
    · refine ⟨⟨o, I.kIn p o hk, hc⟩, fun a e => ?_⟩
      cases e
      exact ⟨o, I.kIn _ o hk, hd⟩
    · have z : ∃ o, s.heap.get? p = some o ∧ o.ExactDict := by
        rcases hk with ⟨kvs, hk⟩ | ⟨kvs, hk⟩
        · obtain ⟨_, _, _, _, o, _, _, e, ex, _⟩ := I.hok p _ hk
          exact ⟨o, e, ex⟩
        · obtain ⟨_, _, _, _, o, _, _, e, ex, _⟩ := I.hok p _ hk
          exact ⟨o, e, ex⟩
      obtain ⟨o, e, ex⟩ := z
      refine ⟨⟨o, e, ex.1⟩, fun a e2 => ?_⟩
      cases e2
      exact ⟨o, e, ex.2.1⟩
    · obtain ⟨o, _, _, _, e, ex, _⟩ := I.hok p _ hk
      refine ⟨⟨o, e, ex.1⟩, fun a e2 => ?_⟩
      cases e2
      exact ⟨o, e, ex.2.1⟩
  | _ => exact False.elim ty
def tBM0 (K : PySem.W.Frag) (T : String) (r : V → List V → Hp → VK → Prop) (to : TE) : TE := fun σ H Q => to σ H fun x H1 => tyV K T x H1 ∧ r x [] H1 Q
def tBM (K : PySem.W.Frag) (T : String) (r : V → List V → Hp → VK → Prop) (to : TE) (t : TA) : TE := fun σ H Q => to σ H fun x H1 => tyV K T x H1 ∧ t σ H1 fun xs H2 => r x xs H2 Q
variable {o e : Expr} {es : List Expr} {to : TE} {t : TA} {name : Str} {apos cpos : Pos} {T id : String} {r : V → List V → Hp → VK → Prop}
theorem pe_bm0 (pa : PlainAttrs T) (slot : Slot T name id) (hty : typeOf (.builtin id) = pure (.type "method_descriptor")) (hm : MtR X id r) (ho : PE X o to)
    (hbase : attributeBase o name X.env (eval o X.env) = eval o X.env := by rfl) (hline : (apos.endLine == cpos.line) = true := by rfl) : PE X (.Call (.Attribute o name apos) [] [] cpos) (tBM0 X.K T r to) := by
  intro pins s σ H Q I h
  refine wpAny_Call_method0_late hbase hline (thn (ho pins s σ H _ I h) fun v s1 ⟨x, H1, I1, r1, ty, q1⟩ => ?_)
  obtain ⟨h1, h2⟩ := tyV_is I1 r1 ty
  exact ⟨T, id, pa, slot, hty, h1, h2, Calls.callWith_builtin rfl (PySem.evalArgs_none (hm pins s1 σ H1 x [] v [] Q I1 r1 .nil q1))⟩
theorem pe_bm (pa : PlainAttrs T) (slot : Slot T name id) (hty : typeOf (.builtin id) = pure (.type "method_descriptor")) (hm : MtR X id r) (ho : PE X o to) (ha : PA X (e :: es) t)
    (hbase : attributeBase o name X.env (eval o X.env) = eval o X.env := by rfl)
    (hfew : ((backTo cpos (starEach (e :: es) X.env)).all (fun x => !x.1) && (backToKw cpos (keywordEach [] X.env)).all (fun x => x.1.isSome)
      && decide ((e :: es).length + ([] : List Keyword).length + (if ([] : List Keyword).isEmpty then 0 else 1) < 30)) = true := by rfl)
    (hline : (apos.endLine == cpos.line) = true := by rfl) (hs : starEach (e :: es) X.env = (false, eval e X.env) :: starEach es X.env := by rfl) (hplain : (backTo cpos (starEach es X.env)).any (·.1) = false := by rfl) :
    PE X (.Call (.Attribute o name apos) (e :: es) [] cpos) (tBM X.K T r to t) := by
  intro pins s σ H Q I h
  refine wpAny_Call_method_late hbase hfew hline rfl (thn (ho pins s σ H _ I h) fun v s1 ⟨x, H1, I1, r1, ty, q1⟩ => ?_)
  obtain ⟨h1, h2⟩ := tyV_is I1 r1 ty
  refine ⟨T, id, pa, slot, hty, h1, h2, ?_⟩
  have hA := ha cpos pins s1 σ H1 _ I1 q1
  rw [hs] at hA ⊢
  refine Calls.callWith_builtin (by show (false || (backTo cpos (starEach es X.env)).any (·.1)) = false; rw [hplain] <;> rfl) (Calls.evalArgs_plain ?_)
  exact thn hA fun us s2 ⟨vs, H2, I2, r2, q2⟩ => hm pins s2 σ H2 x vs v us Q I2 r1 r2 q2
/- xs.append(e), list.index on a module's tuple .. are MtR facts of 06m -/
end
end L2

namespace L2
open PySem PySem.Spec PyProof.Rows

def MtM (X : Cx) (id : String) (r : V → List V → Hp → VK → Prop) : Prop :=
  ∀ (pins : List (Addr × Obj)) (s : Shared) (σ : St) (H : Hp) (x : V) (xs : List V) (v : Value) (us : List Value) (Q : VK), Inv X pins σ H s → RelV x v → Vals xs us → r x xs H Q →
    wpAny (model X.prog X.w) X.A (call (.builtin id) (v :: us)) (EP X pins σ Q) X.xe s

/-! ### lists of values -/
theorem Vals.one : ∀ {x : V} {us : List Value}, Vals [x] us → ∃ u, us = [u] ∧ RelV x u
  | _, _, .cons r .nil => ⟨_, rfl, r⟩
theorem Vals.two : ∀ {x y : V} {us : List Value}, Vals [x, y] us → ∃ u v, us = [u, v] ∧ RelV x u ∧ RelV y v
  | _, _, _, .cons r (.cons q .nil) => ⟨_, _, rfl, r, q⟩
theorem Vals.zero : ∀ {us : List Value}, Vals [] us → us = []
  | _, .nil => rfl
theorem Vals.dropLast {xs : List V} {us : List Value} (h : Vals xs us) : Vals xs.dropLast us.dropLast := by
  induction h with
  | nil => exact .nil
  | cons r t ih =>
    cases t with
    | nil => exact .nil
    | cons q t' => exact .cons r ih
theorem Vals.eraseIdx : ∀ {xs : List V} {us : List Value} (i : Nat), Vals xs us → Vals (xs.eraseIdx i) (us.eraseIdx i)
  | _, _, _, .nil => .nil
  | _, _, 0, .cons _ t => t
  | _, _, i + 1, .cons r t => .cons r (Vals.eraseIdx i t)
theorem Vals.reverse {xs : List V} {us : List Value} (h : Vals xs us) : Vals xs.reverse us.reverse := by
  induction h with
  | nil => exact .nil
  | cons r t ih => rw [List.reverse_cons, List.reverse_cons]; exact Vals.append ih (.cons r .nil)
theorem Vals.rep {xs : List V} {us : List Value} (h : Vals xs us) : ∀ k : Nat, Vals (List.replicate k xs).flatten (List.replicate k us).flatten
  | 0 => .nil
  | k + 1 => by
    rw [List.replicate_succ, List.replicate_succ, List.flatten_cons, List.flatten_cons]
    exact Vals.append h (Vals.rep h k)
theorem erase_last {α : Type} (l : List α) : l.eraseIdx (l.length - 1) = l.dropLast := by
  induction l with
  | nil => rfl
  | cons a r ih =>
    cases r with
    | nil => rfl
    | cons b r =>
      have e : (a :: b :: r).length - 1 = ((b :: r).length - 1) + 1 := by
        have h1 : (a :: b :: r).length = r.length + 2 := rfl
        have h2 : (b :: r).length = r.length + 1 := rfl
        omega
      rw [e, List.eraseIdx_cons_succ, ih]
      all_goals rfl
theorem len_erase {α : Type} : ∀ (l : List α) (i : Nat), (l.eraseIdx i).length ≤ l.length
  | [], _ => Nat.le_refl _
  | _ :: _, 0 => Nat.le_succ _
  | _ :: r, i + 1 => Nat.succ_le_succ (len_erase r i)
theorem foldl_rep (its : List Value) : ∀ (k : Nat) (acc : List Value),
    List.foldl (fun x1 x2 => x1 ++ x2) acc.toArray (List.replicate k its.toArray) = (acc ++ (List.replicate k its).flatten).toArray
  | 0, acc => by simp
  | k + 1, acc => by
    have e : acc.toArray ++ its.toArray = (acc ++ its).toArray := by simp
    have e2 : (acc ++ its) ++ (List.replicate k its).flatten = acc ++ (List.replicate (k + 1) its).flatten := by
      rw [List.replicate_succ, List.flatten_cons, List.append_assoc]
    rw [← e2, ← foldl_rep its k (acc ++ its), ← e, List.replicate_succ, List.foldl_cons]

section
variable {X : Cx} {pins : List (Addr × Obj)} {σ : St} {H : Hp} {s : Shared} {l b : Addr} {xs ys zs : List V}

/-! ### the two steps: a tracked list is rewritten, a new list is laid -/
theorem Inv.lset {its its' : List Value} {n : Nat} {f : Array Value → Array Value} {t' : Nat} (I : Inv X pins σ H s) (hH : H l = some (.lst xs))
    (e : s.heap.get? l = some { cls := .type "list", data := .seq its.toArray n }) (hf : f its.toArray = its'.toArray) (hv : Vals ys its') (hz : ys.length ≤ sizeLine) :
    Inv X pins σ (upd H l (.lst ys)) { s with heap := s.heap.update l (Obj.mapSeq f), toks := t' } := by
  have q := PySem.IsL.update e f
  rw [hf] at q
  refine I.write (x := l) (e := l) (by rw [hH]; exact trivial) (.inl rfl) (fun b' u hb hu => (Heap.get?_update_other s.heap (Obj.mapSeq f) (Ne.symm hb)).trans hu) ⟨_, q⟩ ?_
  exact ⟨hz, its', _, hv, q⟩
theorem Inv.lnew {its : List Value} {t' : Nat} (I : Inv X pins σ H s) (hv : Vals ys its) (hz : ys.length ≤ sizeLine) :
    Inv X pins σ (upd H s.heap.objs.size (.lst ys)) { s with heap := s.heap.push { cls := .type "list", data := .seq its.toArray }, toks := t' } :=
  I.laid (fun _ _ q => Heap.get?_push_of_some _ q) (Nat.le_refl _) ⟨hz, its, 0, hv, Heap.get?_push_size _ rfl⟩
theorem Inv.fresh (I : Inv X pins σ H s) : H s.heap.objs.size = none := I.hok.fresh (Nat.le_refl _)
theorem Inv.lstM (I : Inv X pins σ H s) (hH : H l = some (.lst xs)) : xs.length ≤ sizeLine ∧ ∃ (its : List Value) (n : Nat), Vals xs its ∧ xs.length = its.length ∧ s.heap.get? l = some { cls := .type "list", data := .seq its.toArray n } := by
  obtain ⟨z, its, n, r, e⟩ := I.hok l _ hH
  exact ⟨z, its, n, r, r.length, e⟩

theorem notLongL {n : Nat} (h : n ≤ sizeLine) : Builtin.List.listTooLong n = false := by
  unfold Builtin.List.listTooLong
  exact decide_eq_false (by omega)
end

section
variable {X : Cx}

/-! ### methods -/
def rAppend : V → List V → Hp → VK → Prop := fun x vs H Q => ∃ l xs y, x = .ref l ∧ vs = [y] ∧ H l = some (.lst xs) ∧ xs.length < sizeLine ∧ Q .non (upd H l (.lst (xs ++ [y])))
theorem mt_append : MtM X "list.append" rAppend := by
  intro pins s σ H x vs v us Q I rx rv h
  obtain ⟨l, xs, y, rfl, rfl, hH, hz, q⟩ := h
  cases rx
  obtain ⟨u, rfl, ru⟩ := rv.one
  obtain ⟨z, its, n, r, hl, e⟩ := I.lstM hH
  refine call_meets F.slot_list_append ⟨_, e, rfl⟩ F.entry_list_append (F.args_list_append_2 _ _) (PySem.list_append l its.toArray n u (by rw [List.size_toArray]; omega)) ⟨e, ?_⟩
  refine ⟨.non, _, I.lset (its' := its ++ [u]) hH e (by simp) (r.append (.cons ru .nil)) ?_, rfl, q⟩
  rw [List.length_append, List.length_singleton]
  omega

def rExtend : V → List V → Hp → VK → Prop := fun x vs H Q => ∃ l b xs zs, x = .ref l ∧ vs = [.ref b] ∧ H l = some (.lst xs) ∧ H b = some (.lst zs) ∧ xs.length + zs.length ≤ sizeLine ∧ Q .non (upd H l (.lst (xs ++ zs)))
theorem mt_extend : MtM X "list.extend" rExtend := by
  intro pins s σ H x vs v us Q I rx rv h
  obtain ⟨l, b, xs, zs, rfl, rfl, hH, hB, hz, q⟩ := h
  cases rx
  obtain ⟨u, rfl, ru⟩ := rv.one
  cases ru
  obtain ⟨z, its, n, r, hl, e⟩ := I.lstM hH
  obtain ⟨z2, its2, n2, r2, hl2, e2⟩ := I.lstM hB
  have hsz : its.toArray.size + its2.toArray.size ≤ sizeLine := by rw [List.size_toArray, List.size_toArray]; omega
  have hlong : ¬ (!its.toArray.isEmpty && Builtin.List.listTooLong (its.toArray.size + its2.toArray.size)) = true := by
    rw [notLongL hsz, Bool.and_false]
    exact Bool.false_ne_true
  refine call_meets F.slot_list_extend ⟨_, e, rfl⟩ F.entry_list_extend (F.args_list_extend_2 _ _)
    (AutoSeq1.list_extend_list_list_0 l its.toArray n b its2.toArray n2 hlong (by rw [List.size_toArray]; omega) (by omega)) ⟨e, e2, ?_⟩
  refine ⟨.non, _, I.lset (its' := its ++ its2) hH e (by simp) (r.append r2) ?_, rfl, q⟩
  rw [List.length_append]
  omega

def rPop : V → List V → Hp → VK → Prop := fun x vs H Q => ∃ l xs y, x = .ref l ∧ vs = [] ∧ H l = some (.lst xs) ∧ xs[xs.length - 1]? = some y ∧ Q y (upd H l (.lst xs.dropLast))
theorem mt_pop : MtM X "list.pop" rPop := by
  intro pins s σ H x vs v us Q I rx rv h
  obtain ⟨l, xs, y, rfl, rfl, hH, hy, q⟩ := h
  cases rx
  have hus := rv.zero
  subst hus
  obtain ⟨z, its, n, r, hl, e⟩ := I.lstM hH
  obtain ⟨u, hu, ru⟩ := r.get hy
  have hy' : its.toArray[its.toArray.size - 1]? = some u := by
    show its.toArray[its.length - 1]? = some u
    rw [← Array.getElem?_toList, ← hl]
    exact hu
  refine call_meets F.slot_list_pop ⟨_, e, rfl⟩ F.entry_list_pop (F.args_list_pop_1 _) (MeetsSeq.list_pop_last l its.toArray n u hy' (by rw [List.size_toArray]; omega)) ⟨e, ?_⟩
  refine ⟨y, _, I.lset (its' := its.dropLast) hH e ?_ r.dropLast ?_, ru, q⟩
  · show its.toArray.eraseIdxIfInBounds (its.toArray.size - 1) = its.dropLast.toArray
    rw [List.size_toArray, List.eraseIdxIfInBounds_toArray, erase_last]
  · rw [List.length_dropLast]
    omega

def rPopAt : V → List V → Hp → VK → Prop := fun x vs H Q => ∃ l xs i k y, x = .ref l ∧ vs = [.int i] ∧ H l = some (.lst xs) ∧ -(2 ^ 63) ≤ i ∧ i < 2 ^ 63 ∧ seqIndex? i xs.length = some k ∧ xs[k]? = some y ∧ Q y (upd H l (.lst (xs.eraseIdx k)))
theorem mt_popAt : MtM X "list.pop" rPopAt := by
  intro pins s σ H x vs v us Q I rx rv h
  obtain ⟨l, xs, i, k, y, rfl, rfl, hH, h1, h2, hk, hy, q⟩ := h
  cases rx
  obtain ⟨u, rfl, ru⟩ := rv.one
  obtain ⟨t, rfl⟩ := ru
  obtain ⟨z, its, n, r, hl, e⟩ := I.lstM hH
  obtain ⟨w, hw, rw'⟩ := r.get hy
  refine call_meets F.slot_list_pop ⟨_, e, rfl⟩ F.entry_list_pop (F.args_list_pop_2 _ _)
    (MeetsSeq.list_pop_at l its.toArray n i t k w (fitsIndex_both h1 h2) (by rw [List.size_toArray, ← hl]; exact hk) (by rw [← Array.getElem?_toList]; exact hw) (by rw [List.size_toArray]; omega)) ⟨e, ?_⟩
  refine ⟨y, _, I.lset (its' := its.eraseIdx k) hH e ?_ (r.eraseIdx k) ?_, rw', q⟩
  · show its.toArray.eraseIdxIfInBounds k = (its.eraseIdx k).toArray
    rw [List.eraseIdxIfInBounds_toArray]
  · have := len_erase xs k
    omega

def rReverse : V → List V → Hp → VK → Prop := fun x vs H Q => ∃ l xs, x = .ref l ∧ vs = [] ∧ H l = some (.lst xs) ∧ Q .non (upd H l (.lst xs.reverse))
theorem mt_reverse : MtM X "list.reverse" rReverse := by
  intro pins s σ H x vs v us Q I rx rv h
  obtain ⟨l, xs, rfl, rfl, hH, q⟩ := h
  cases rx
  have hus := rv.zero
  subst hus
  obtain ⟨z, its, n, r, hl, e⟩ := I.lstM hH
  refine call_meets F.slot_list_reverse ⟨_, e, rfl⟩ F.entry_list_reverse (F.args_list_reverse_1 _) (AutoSeq1.list_reverse_list_0 l its.toArray n (by rw [List.size_toArray]; omega)) ⟨e, ?_⟩
  refine ⟨.non, _, I.lset (its' := its.reverse) hH e (by simp) r.reverse ?_, rfl, q⟩
  rw [List.length_reverse]
  omega

def rClear : V → List V → Hp → VK → Prop := fun x vs H Q => ∃ l xs, x = .ref l ∧ vs = [] ∧ H l = some (.lst xs) ∧ Q .non (upd H l (.lst []))
theorem mt_clear : MtM X "list.clear" rClear := by
  intro pins s σ H x vs v us Q I rx rv h
  obtain ⟨l, xs, rfl, rfl, hH, q⟩ := h
  cases rx
  have hus := rv.zero
  subst hus
  obtain ⟨z, its, n, r, hl, e⟩ := I.lstM hH
  refine call_meets F.slot_list_clear ⟨_, e, rfl⟩ F.entry_list_clear (F.args_list_clear_1 _) (AutoSeq1.list_clear_list_0 l its.toArray n (by rw [List.size_toArray]; omega)) ⟨e, ?_⟩
  exact ⟨.non, _, I.lset (its' := []) (ys := []) hH e rfl .nil (Nat.zero_le _), rfl, q⟩

/-! ### list + list, list += list, list * int -/
def rCat : R2 := fun x y H Q => ∃ l b xs zs, x = .ref l ∧ y = .ref b ∧ H l = some (.lst xs) ∧ H b = some (.lst zs) ∧ xs.length + zs.length ≤ sizeLine ∧ ∀ p, H p = none → Q (.ref p) (upd H p (.lst (xs ++ zs)))
theorem op_cat : OpR X (binaryOp .Add) rCat := by
  intro pins s σ H x y v u Q I rx ry h
  obtain ⟨l, b, xs, zs, rfl, rfl, hH, hB, hz, q⟩ := h
  cases rx
  cases ry
  obtain ⟨z, its, n, r, hl, e⟩ := I.lstM hH
  obtain ⟨z2, its2, n2, r2, hl2, e2⟩ := I.lstM hB
  refine PySem.P.add_list e e2 ?_ (by rw [List.size_toArray, List.size_toArray]; omega)
  have ea : its.toArray ++ its2.toArray = (its ++ its2).toArray := by simp
  rw [ea]
  exact ⟨.ref _, _, I.lnew (t' := s.toks) (r.append r2) (by rw [List.length_append]; omega), rfl, q _ I.fresh⟩
/-- a list times an int (a negative one is nothing) -/
def rRep : R2 := fun x y H Q => ∃ l k xs, x = .ref l ∧ y = .int k ∧ H l = some (.lst xs) ∧ -(2 ^ 63) ≤ k ∧ k < 2 ^ 63 ∧ xs.length * k.toNat ≤ sizeLine ∧
  ∀ p, H p = none → Q (.ref p) (upd H p (.lst (List.replicate k.toNat xs).flatten))
theorem len_rep {α : Type} (xs : List α) (k : Nat) : (List.replicate k xs).flatten.length = k * xs.length := by
  induction k with
  | zero => simp
  | succ k ih => rw [List.replicate_succ, List.flatten_cons, List.length_append, ih, Nat.succ_mul, Nat.add_comm]
theorem op_rep : OpR X (binaryOp .Mult) rRep := by
  intro pins s σ H x y v u Q I rx ry h
  obtain ⟨l, k, xs, rfl, rfl, hH, h1, h2, hz, q⟩ := h
  cases rx
  obtain ⟨t, rfl⟩ := ry
  obtain ⟨z, its, n, r, hl, e⟩ := I.lstM hH
  have hlen : its.toArray.size * k.toNat ≤ sizeLine := by rw [List.size_toArray, ← hl]; exact hz
  have hcap : ¬ its.toArray.size * k.toNat > (2 ^ 63 - 1) / 8 := by
    have : (sizeLine : Nat) ≤ (2 ^ 63 - 1) / 8 := by decide
    omega
  have hfit : ¬ (!Builtin.List.listFitsIndex k) = true := by
    rw [fitsIndex_both h1 h2]
    exact Bool.false_ne_true
  have hlong : ¬ Builtin.List.listTooLong (its.toArray.size * k.toNat) = true := by
    rw [notLongL hlen]
    exact Bool.false_ne_true
  have hnew : List.foldl (fun x1 x2 => x1 ++ x2) #[] (List.replicate (if its.toArray.isEmpty = true then 0 else k.toNat) its.toArray) = (List.replicate k.toNat its).flatten.toArray := by
    have f0 : ∀ m : Nat, List.foldl (fun x1 x2 => x1 ++ x2) #[] (List.replicate m its.toArray) = (List.replicate m its).flatten.toArray := fun m => by
      have := foldl_rep its m []
      rw [List.nil_append] at this
      exact this
    rw [f0]
    cases its with
    | nil => simp
    | cons a r' => rw [if_neg (by simp)]
  refine wpAny_binaryOp_repeat_ref (T := "list") (U := "int") (by decide) ⟨_, e, rfl⟩ (fun s' => typeIs_int s' k t) noFill_list_mul F.fills_int_mul F.slot_int_rmul repeat_list F.slot_int_index.lookup
    (call_meets F.slot_int_rmul (typeIs_int s k t) F.entry_int_rmul (F.args_int_rmul_2 _ _) (int___rmul___int_list k t l its.toArray n)
      ⟨e, rfl, ⟨_, e, rfl⟩, call_meets F.slot_list_mul ⟨_, e, rfl⟩ F.entry_list_mul (F.args_list_mul_2 _ _) (AutoListH.list___mul___list_int_3 l its.toArray n k t hfit hcap hlong) ⟨e, ?_⟩⟩)
  rw [hnew]
  exact ⟨.ref _, _, I.lnew (t' := s.toks) (r.rep k.toNat) (by rw [len_rep, Nat.mul_comm]; exact hz), rfl, q _ I.fresh⟩

/-! ### del xs[i] -/
theorem del_list {pins : List (Addr × Obj)} {s : Shared} {σ : St} {H : Hp} {l : Addr} {xs : List V} {i : Int} {t : Tok} {k : Nat} {Q : Unit → Shared → Prop} (I : Inv X pins σ H s) (hH : H l = some (.lst xs))
    (h1 : -(2 ^ 63) ≤ i) (h2 : i < 2 ^ 63) (hk : seqIndex? i xs.length = some k) (h : ∀ s', Inv X pins σ (upd H l (.lst (xs.eraseIdx k))) s' → Q () s') :
    wpAny (model X.prog X.w) X.A (delItem (.ref l) (.int i t)) Q X.xe s := by
  obtain ⟨z, its, n, r, hl, e⟩ := I.lstM hH
  refine PySem.P.delItem_list (k := k) e (fitsIndex_both h1 h2) (by rw [List.size_toArray, ← hl]; exact hk) (h _ ?_) (by rw [List.size_toArray]; omega)
  refine I.lset (its' := its.eraseIdx k) (t' := s.toks) hH e ?_ (r.eraseIdx k) ?_
  · show its.toArray.eraseIdxIfInBounds k = (its.eraseIdx k).toArray
    rw [List.eraseIdxIfInBounds_toArray]
  · have := len_erase xs k
    omega
end

/-! ### xs[a:b] = ys -/
section
variable {prog : Program} {w : World} {A : Around} {E : Value → Shared → Prop} {s : Shared}
theorem splice_eq (its its2 : List Value) (a c : Nat) : its.toArray.extract 0 a ++ its2.toArray ++ its.toArray.extract c its.toArray.size = (its.take a ++ its2 ++ its.drop c).toArray := by
  apply Array.toList_inj.mp
  first
    | (simp
       exact List.take_of_length_le (by simp))
    | simp [List.take_of_length_le]
    | simp
theorem bounds_run {a c n : Nat} (hac : a ≤ c) (hc : c ≤ n) : sliceBounds (some (a : Int)) (some (c : Int)) none n = ((a : Int), (c : Int), 1) := by
  simp only [sliceBounds, Option.getD_none]
  have h1 : ¬ ((a : Int) < 0) := by omega
  have h2 : ¬ ((c : Int) < 0) := by omega
  simp only [h1, h2, if_false, show (1 : Int) > 0 by decide, if_true]
  congr 1
  · omega
  · congr 1; omega
set_option maxRecDepth 100000 in
/-- list.__setitem__ with a slice of step one and another list -/
theorem setItem_slice {l b sl : Addr} {items new : Array Value} {n n2 : Nat} {vl vu : Value} {a c : Nat} {Q : Unit → Shared → Prop}
    (e : s.heap.get? l = some { cls := .type "list", data := .seq items n }) (e2 : s.heap.get? b = some { cls := .type "list", data := .seq new n2 }) (hne : l ≠ b)
    (hs : s.heap.IsSliceOf sl vl vu .none) (pl : IsPart vl (some (a : Int))) (pu : IsPart vu (some (c : Int))) (hac : a ≤ c) (hc : c ≤ items.size)
    (hsz : items.size + new.size ≤ sizeLine) (h : Q () { s with heap := s.heap.update l (Obj.mapSeq fun xs => xs.extract 0 a ++ new ++ xs.extract c xs.size) }) :
    wpAny (model prog w) A (setItem (.ref l) (.ref sl) (.ref b)) Q E s := by
  have hl : s.heap.IsList l items := PySem.IsL.isList e
  have hb : s.heap.IsList b new := PySem.IsL.isList e2
  obtain ⟨os, hos, hcs, hds⟩ := id hs
  have hTs : s.TypeIs (.ref sl) "slice" := ⟨os, hos, hcs⟩
  have hstep : ¬ ((rawPart none == rawInt 0) = true) := Bool.false_ne_true
  have hsame : Builtin.List.listSameRef (.ref l) (.ref b) = false := by
    unfold Builtin.List.listSameRef
    exact beq_eq_false_iff_ne.mpr hne
  have hmax : (max (a : Int) (c : Int)).toNat = c := by omega
  have hz' : ((fun xs : Array Value => xs.extract 0 a ++ new ++ xs.extract c xs.size) items).size ≤ sizeLine + 1 := by
    simp only [Array.size_append, Array.size_extract]
    omega
  unfold setItem
  try with_reducible refine wpAny_holding ?_
  first | refine wpAny_bind (wpAny_pure ?_) | skip
  refine wpAny_bind (wpAny_sequenceKey hl.typeIs (by decide) ?_)
  refine wpAny_bind (wpAny_callSpecial?_slot (name := Str.ofString "__setitem__") hl.typeIs slot_list_setitem
    (wpAny_call_entry slot_list_setitem hl.typeIs entry_list_setitem ?_ (args_list_setitem _ _ _)))
  show wpAny _ _ (Builtin.List.listSubscript? (.ref sl) >>= _) _ _ s
  refine wpAny_bind ?_
  unfold Builtin.List.listSubscript?
  refine wpAny_bind (wpAny_specialOf hTs slice_no_index ?_)
  simp only [Option.isNone_none, if_true]
  refine wpAny_pure ?_
  show wpAny _ _ (typeOf (.ref sl) >>= _) _ _ s
  refine wpAny_bind (wpAny_typeOf hTs ?_)
  first
    | rw [if_neg (by decide)]
    | refine PySem.W.KFB.if_not (by decide) ?_
  rw [listSliceParts_eq]
  refine wpAny_bind (wpAny_bind (wpAny_field hos hds (x := .none) rfl (wpAny_bind (wpAny_listPart .none ?_))))
  rw [if_neg hstep]
  refine wpAny_bind (wpAny_field hos hds (x := vl) rfl (wpAny_bind (wpAny_listPart pl ?_)))
  refine wpAny_bind (wpAny_field hos hds (x := vu) rfl (wpAny_bind (wpAny_listPart pu (wpAny_pure ?_))))
  first
    | simp only [hsame, Bool.false_eq_true, if_false]
    | refine PySem.W.KFB.if_not hsame ?_
    | (dsimp only
       rw [if_neg (by rw [hsame]; exact Bool.false_ne_true)])
  refine wpAny_bind (m := Builtin.List.listAllItems (.ref b) "must assign iterable to extended slice") ?_
  unfold Builtin.List.listAllItems
  refine wpAny_bind (wpAny_typeOf hb.typeIs ?_)
  first
    | refine PySem.W.KFB.if_so (by decide) ?_
    | rw [if_pos (by decide)]
    | simp only [beq_self_eq_true, Bool.true_or, if_true]
  unfold Builtin.List.listItems
  refine wpAny_bind (wpAny_seqItems e2 rfl (wpAny_pure ?_))
  refine wpAny_bind (wpAny_bind (wpAny_seqItems e rfl (wpAny_pure ?_)))
  refine wpAny_bind (wpAny_of_eq ((sliceIndices_raw (some (a : Int)) (some (c : Int)) none items.size (by simp)).trans (congrArg (pure : Int × Int × Int → Sem (Int × Int × Int)) (bounds_run hac hc))) ?_)
  show wpAny _ _ (if ((1 : Int) == 1) = true then _ else _) _ _ s
  rw [if_pos (by decide)]
  refine wpAny_bind (wpAny_rule ?_)
  first
    | simp only [notLongL hsz, Bool.false_eq_true, if_false]
    | refine PySem.W.KFB.if_not (notLongL hsz) ?_
  first | refine wpAny_bind (wpAny_pure ?_) | skip
  show wpAny _ _ (updateSeq l (fun xs => xs.extract 0 ((a : Int)).toNat ++ new ++ xs.extract (max (a : Int) (c : Int)).toNat xs.size) >>= _) _ _ s
  rw [hmax, Int.toNat_natCast]
  refine wpAny_bind (wpAny_updateSeq (hz := Nat.le_trans (Nat.le_add_right _ _) hsz) (_hz' := hz') e rfl ?_)
  refine wpAny_bind (wpAny_letGo ?_)
  first
    | exact wpAny_bind (wpAny_pure (wpAny_pure ⟨.none, rfl, wpAny_pure h⟩))
    | exact wpAny_pure ⟨.none, rfl, wpAny_pure h⟩
end

section
variable {X : Cx}
/-- xs[a:c] = ys of another list, at the value level: sl is the slice object that was just made -/
theorem set_slice {pins : List (Addr × Obj)} {s : Shared} {σ : St} {H : Hp} {l b sl : Addr} {xs ys : List V} {a c : Int} {vl vu : Value} {Q : Unit → Shared → Prop} (I : Inv X pins σ H s)
    (hH : H l = some (.lst xs)) (hB : H b = some (.lst ys)) (hne : l ≠ b) (hs : s.heap.IsSliceOf sl vl vu .none) (ra : RelV (.int a) vl) (rc : RelV (.int c) vu) (h0 : 0 ≤ a) (hac : a ≤ c) (hc : c ≤ xs.length)
    (hz : xs.length + ys.length ≤ sizeLine) (h : ∀ s', Inv X pins σ (upd H l (.lst (xs.take a.toNat ++ ys ++ xs.drop c.toNat))) s' → Q () s') :
    wpAny (model X.prog X.w) X.A (setItem (.ref l) (.ref sl) (.ref b)) Q X.xe s := by
  obtain ⟨ta, rfl⟩ := ra
  obtain ⟨tc, rfl⟩ := rc
  obtain ⟨z, its, n, r, hl, e⟩ := I.lstM hH
  obtain ⟨z2, its2, n2, r2, hl2, e2⟩ := I.lstM hB
  obtain ⟨a', rfl⟩ := Int.eq_ofNat_of_zero_le h0
  obtain ⟨c', rfl⟩ := Int.eq_ofNat_of_zero_le (Int.le_trans h0 hac)
  simp only [Int.toNat_natCast] at h
  refine setItem_slice (a := a') (c := c') e e2 hne hs (.int _ _) (.int _ _) (by omega) (by rw [List.size_toArray]; omega) (by rw [List.size_toArray, List.size_toArray]; omega) (h _ ?_)
  refine I.lset (its' := its.take a' ++ its2 ++ its.drop c') (t' := s.toks) hH e ?_ (Vals.append (Vals.append (r.take _) r2) (r.drop _)) ?_
  · exact splice_eq its its2 a' c'
  · rw [List.length_append, List.length_append, List.length_take, List.length_drop]
    omega
end
end L2

namespace Att
open PySem PySem.W PySem.Calls PyProof.Rows

/-! ### the script -/
theorem ints_of_wellAll {P : Params} {h : Heap} : ∀ (ns : List Int) (vs : List Value), WellAll P h vs (ns.map WData.int) → IntsAre vs ns := by
  intro ns
  induction ns with
  | nil =>
    intro vs w
    rw [List.map_nil] at w
    cases w
    exact .nil
  | cons n ns ih =>
    intro vs w
    rw [List.map_cons] at w
    cases w with
    | cons a b =>
      cases a
      exact .cons _ _ (ih _ b)

theorem script_of {l : OpenLaw} {n : Nat} (hn : l.most = some n) {P : Params} {h : Heap} {args : List WData} {vals : List Value}
    (hpre : l.row.toRowW.claim.pre args = true) (hwl : WellAll P h vals args) :
    ∃ a vs ns, vals = [Value.ref a] ∧ args = [WData.list (ns.map WData.int)] ∧ h.get? a = some { cls := .type "list", data := .seq vs.toArray } ∧ IntsAre vs ns ∧ ns.length ≤ n := by
  have hsh : WShape.hasAll [] args [.list .int] = true := (pre_splitW hpre).1
  have hc : l.pre.holds [] { args := args } = true := (pre_splitW hpre).2
  obtain ⟨d, r, rfl, h1, h2⟩ := hasAllW_cons hsh
  obtain rfl := hasAllW_nil h2
  obtain ⟨xs, rfl, h3⟩ := hasW_list h1
  obtain ⟨ns, rfl⟩ := items_int h3
  have hlen : ns.length ≤ n := by
    unfold OpenLaw.pre at hc
    have h4 : (WTm.not (.lt (.lit (.int (n : Int))) (.len (.arg 0)))).holds [] { args := [.list (ns.map .int)] } = true := by
      have h4 := (holds_andW hc).1
      rw [hn] at h4
      exact h4
    have h5 := condW_of h4 (w_not (w_lt w_lit (w_len_list (w_arg rfl))))
    rw [List.length_map] at h5
    refine Nat.le_of_not_lt fun q => ?_
    have q' : (n : Int) < ((ns.length : Nat) : Int) := by omega
    first
      | (rw [decide_eq_true q'] at h5; exact absurd h5 (by decide))
      | (simp at h5; omega)
  cases hwl with
  | cons w1 w2 =>
    cases w2
    cases w1 with
    | list ho hall => exact ⟨_, _, ns, rfl, rfl, ho, ints_of_wellAll ns _ hall, hlen⟩

theorem post_true (l : OpenLaw) (args : List WData) : l.row.toRowW.claim.post args (.bool true) args = true :=
  postW_of (r := l.row.toRowW) (X := (true == true))
    (show WShape.has [] (.bool true) .bool = true by first | rfl | decide | simp [WShape.has, WShape.arms, WShape.armsAll])
    (show (WTm.eq .res (.lit (.bool true))).value [] { args := args, res := some (.bool true), after := args } = some (.bool (true == true)) from w_eq_bool (w_res rfl) w_lit) rfl

/-! ### the attachment: holds_open's last premise (the goal 'hc' behind k_head) from a wpAny of the law's body -/
theorem attach {l : OpenLaw} {n : Nat} {q : Program} {loose : List Str} {XP : (Str → Option Value) → Heap → Prop} {YP : World → Heap → Prop} {d : DefRec} {x : Str}
    (hn : l.most = some n) (hdf : d.params.defaults = [])
    (hbind : ∀ pm cd doc v : Value, bindArgs (docDef d.name d.params d.body d.scope pm cd doc) ⟨[v], []⟩ = pure [(x, v)])
    (hx : d.scope.names.lookup x = some .local ∨ d.scope.names.lookup x = some .cell)
    (hk : d.scope.kind = .function) (hco : d.scope.isCoroutine = false) (hgen : d.scope.isGenerator = false)
    (body : ∀ (w : World) (s₀ s₁ s : Shared) (mg mb : Str → Option Value) (fa : Addr) (o : Obj) (pm cd doc : Value) (a : Addr) (vs : List Value) (ns : List Int),
      Ground q loose [] XP w s₀ mg mb s₁.heap → YP w s₁.heap →
      s₁.heap.get? fa = some o → o.data = .func (docDef d.name d.params d.body d.scope pm cd doc) → s₁.heap.CodeRec cd d.name → mg d.name = some (.ref fa) →
      s₁.heap.get? a = some { cls := .type "list", data := .seq vs.toArray } → IntsAre vs ns → ns.length ≤ n →
      s.gens = #[] → s.os = s₁.os →
      Fr s₁.heap s₁.heap.objs.size s.heap (bindL (envOfC d.name d.scope s₁.heap.objs.size fa cd).kindOf [(x, .ref a)] fun _ => none) →
      Cl s₁.heap.objs.size (cellsFrom (s₁.heap.objs.size + 1) d.scope.names []) s.heap (bindC (envOfC d.name d.scope s₁.heap.objs.size fa cd).kindOf [(x, .ref a)] fun _ => none) →
      wpAny (model l.prog w) (callerA.deeper (envOfC d.name d.scope s₁.heap.objs.size fa cd)) (execs d.body (envOfC d.name d.scope s₁.heap.objs.size fa cd))
        (fun f s' => f = .ret (.bool true) ∧ OldK s₁.heap s'.heap ∧ s'.os = s₁.os ∧ AllBare s'.gens) (fun _ _ => False) s) :
    WalkO q loose XP YP l.row.toRowW d [] (fun f vs => PySem.call f vs) := by
  intro w s₀ s₁ mg mb G Y fa o pm cd doc dV kV ho hd hcd hD hmg hg args vals as hpre hlay hrd hwl hlo
  obtain rfl : dV = .none := Dflts.none hD hdf
  obtain rfl : kV = .none := Dflts.noKw hD
  obtain ⟨a, vs, ns, rfl, rfl, hobj, hints, hlen⟩ := script_of hn hpre hwl
  refine enter_call ?_
  refine call_cells_ret (o := o) (by rw [depth_caller]; decide) ho (fd_plain hd) G.T.nolimit hcd (hbind pm cd doc (.ref a)) (fun y hy => ?_) (fun h₁ tk F X => ?_) hco hgen hk
  · obtain rfl : y = (x, Value.ref a) := List.mem_singleton.mp hy
    rcases hx with e | e
    · exact .inl e
    · exact .inr ⟨e, cellsFrom_some _ _ _ (.inl e)⟩
  · refine wpAny_mono (body w s₀ s₁ { s₁ with heap := h₁, toks := tk } mg mb fa o pm cd doc a vs ns G Y ho (fd_plain hd) hcd hmg hobj hints hlen hg rfl F X) (fun f s' hq => ?_) (fun _ _ hq => hq)
    obtain ⟨rfl, h2, h3, h4⟩ := hq
    exact ⟨.inl ⟨.bool true, .bool true, [], rfl, fun _ => rfl, .bool true, post_true l _, fun _ => ⟨List.Pairwise.nil, fun _ hm => (nomatch hm)⟩⟩, h2, h3, h4⟩

/-- the same from a codeAny of the CALL (for a layer whose function contracts speak of calls) -/
theorem attach_call {l : OpenLaw} {n : Nat} {q : Program} {loose : List Str} {XP : (Str → Option Value) → Heap → Prop} {YP : World → Heap → Prop} {d : DefRec}
    (hn : l.most = some n) (hdf : d.params.defaults = [])
    (call : ∀ (w : World) (s₀ s₁ : Shared) (mg mb : Str → Option Value) (fa : Addr) (o : Obj) (pm cd doc : Value) (a : Addr) (vs : List Value) (ns : List Int),
      Ground q loose [] XP w s₀ mg mb s₁.heap → YP w s₁.heap →
      s₁.heap.get? fa = some o → o.data = .func (docDef d.name d.params d.body d.scope pm cd doc) → s₁.heap.CodeRec cd d.name → mg d.name = some (.ref fa) →
      s₁.heap.get? a = some { cls := .type "list", data := .seq vs.toArray } → IntsAre vs ns → ns.length ≤ n → s₁.gens = #[] →
      codeAny (model l.prog w) callerA (.call (.ref fa) ⟨[.ref a], []⟩) (fun r s' => r = .ok (.ret (.bool true)) ∧ OldK s₁.heap s'.heap ∧ s'.os = s₁.os ∧ AllBare s'.gens) s₁) :
    WalkO q loose XP YP l.row.toRowW d [] (fun f vs => PySem.call f vs) := by
  intro w s₀ s₁ mg mb G Y fa o pm cd doc dV kV ho hd hcd hD hmg hg args vals as hpre hlay hrd hwl hlo
  obtain rfl : dV = .none := Dflts.none hD hdf
  obtain rfl : kV = .none := Dflts.noKw hD
  obtain ⟨a, vs, ns, rfl, rfl, hobj, hints, hlen⟩ := script_of hn hpre hwl
  refine enter_call (codeAny_mono (call w s₀ s₁ mg mb fa o pm cd doc a vs ns G Y ho (fd_plain hd) hcd hmg hobj hints hlen hg) fun r s' hq => ?_)
  obtain ⟨rfl, h2, h3, h4⟩ := hq
  exact ⟨.inl ⟨.bool true, .bool true, [], rfl, fun _ => rfl, .bool true, post_true l _, fun _ => ⟨List.Pairwise.nil, fun _ hm => (nomatch hm)⟩⟩, h2, h3, h4⟩

/-- the same where the top left finished generators (o_head chose holds_openN): nothing may have changed at all and no generator may be left -/
theorem attachN {l : OpenLaw} {n : Nat} {q : Program} {loose : List Str} {XP : (Str → Option Value) → Heap → Prop} {YP : World → Heap → Prop} {d : DefRec} {x : Str}
    (hn : l.most = some n) (hdf : d.params.defaults = [])
    (hbind : ∀ pm cd doc v : Value, bindArgs (docDef d.name d.params d.body d.scope pm cd doc) ⟨[v], []⟩ = pure [(x, v)])
    (hx : d.scope.names.lookup x = some .local ∨ d.scope.names.lookup x = some .cell)
    (hk : d.scope.kind = .function) (hco : d.scope.isCoroutine = false) (hgen : d.scope.isGenerator = false)
    (body : ∀ (w : World) (s₀ s₁ s : Shared) (mg mb : Str → Option Value) (fa : Addr) (o : Obj) (pm cd doc : Value) (a : Addr) (vs : List Value) (ns : List Int),
      Ground q loose [] XP w s₀ mg mb s₁.heap → YP w s₁.heap →
      s₁.heap.get? fa = some o → o.data = .func (docDef d.name d.params d.body d.scope pm cd doc) → s₁.heap.CodeRec cd d.name → mg d.name = some (.ref fa) →
      s₁.heap.get? a = some { cls := .type "list", data := .seq vs.toArray } → IntsAre vs ns → ns.length ≤ n →
      s.gens = #[] → s.os = s₁.os →
      Fr s₁.heap s₁.heap.objs.size s.heap (bindL (envOfC d.name d.scope s₁.heap.objs.size fa cd).kindOf [(x, .ref a)] fun _ => none) →
      Cl s₁.heap.objs.size (cellsFrom (s₁.heap.objs.size + 1) d.scope.names []) s.heap (bindC (envOfC d.name d.scope s₁.heap.objs.size fa cd).kindOf [(x, .ref a)] fun _ => none) →
      wpAny (model l.prog w) (callerA.deeper (envOfC d.name d.scope s₁.heap.objs.size fa cd)) (execs d.body (envOfC d.name d.scope s₁.heap.objs.size fa cd))
        (fun f s' => f = .ret (.bool true) ∧ (∀ b o, s₁.heap.get? b = some o → s'.heap.get? b = some o) ∧ s'.os = s₁.os ∧ s'.gens = #[]) (fun _ _ => False) s) :
    WalkN q loose XP YP l.row.toRowW d [] (fun f vs => PySem.call f vs) := by
  intro w s₀ s₁ mg mb G Y fa o pm cd doc dV kV ho hd hcd hD hmg hg args vals as hpre hlay hrd hwl hlo
  obtain rfl : dV = .none := Dflts.none hD hdf
  obtain rfl : kV = .none := Dflts.noKw hD
  obtain ⟨a, vs, ns, rfl, rfl, hobj, hints, hlen⟩ := script_of hn hpre hwl
  refine enter_callW ?_
  refine call_cells_ret (o := o) (by rw [depth_caller]; decide) ho (fd_plain hd) G.T.nolimit hcd (hbind pm cd doc (.ref a)) (fun y hy => ?_) (fun h₁ tk F X => ?_) hco hgen hk
  · obtain rfl : y = (x, Value.ref a) := List.mem_singleton.mp hy
    rcases hx with e | e
    · exact .inl e
    · exact .inr ⟨e, cellsFrom_some _ _ _ (.inl e)⟩
  · refine wpAny_mono (body w s₀ s₁ { s₁ with heap := h₁, toks := tk } mg mb fa o pm cd doc a vs ns G Y ho (fd_plain hd) hcd hmg hobj hints hlen hg rfl F X) (fun f s' hq => ?_) (fun _ _ hq => hq)
    obtain ⟨rfl, h2, h3, h4⟩ := hq
    exact ⟨.inl ⟨.bool true, .bool true, [], rfl, fun _ => rfl, .bool true, post_true l _, fun _ => ⟨List.Pairwise.nil, fun _ hm => (nomatch hm)⟩⟩, h2, h3, h4⟩

/-! ### rules over ANY heap (no ledger) from facts about the written part K: the library's own take a ledger (News) for what they write -/
section
variable {prog : Program} {w : World} {A : Around} {E : Value → Shared → Prop} {s : Shared} {K : Frag}

/-- a def of the module, or a method (qual 'C.m'), entered: the frame is the next address; cells behind it -/
theorem call_fn {R : Result → Shared → Prop} {name qual : Str} {params : Arguments} {body : List Stmt} {scope : Scope} {dV kV doc pm cdv ct oc : Value} {an od : Option Addr} {osl : Array (Option Value)} {f : Addr} {args : Args} {binds : List (Str × Value)}
    (X : K.In s.heap) (hlim : s.heap.NoLimit) (ho : K.lookup f = some ⟨oc, od, .func (fnOf name qual params body scope dV kV doc pm an cdv ct), osl⟩) (hcd : codeIn K cdv qual = true) (hroom : A.depth < recursionLimit)
    (hbind : BindsTo s (fnOf name qual params body scope dV kV doc pm an cdv ct) args binds)
    (hkind : (binds.all fun y => scope.names.lookup y.1 == some .local || scope.names.lookup y.1 == some .cell) = true)
    (h : ∀ s₁, InCallC s s.heap.objs.size (bindL (envOfC qual scope s.heap.objs.size f cdv).kindOf binds fun _ => none) (cellsFrom (s.heap.objs.size + 1) scope.names [])
        (bindC (envOfC qual scope s.heap.objs.size f cdv).kindOf binds fun _ => none) s₁ →
      wpAny (model prog w) (A.deeper (envOfC qual scope s.heap.objs.size f cdv)) (execs body (envOfC qual scope s.heap.objs.size f cdv))
        (fun fl s' => R (.ok (.ret (match fl with | .ret v => v | _ => .none))) s')
        (fun e s' => wpAny (model prog w) (A.deeper (envOfC qual scope s.heap.objs.size f cdv)) (leaving (envOfC qual scope s.heap.objs.size f cdv) e) (fun _ s'' => R (.error e) s'') (fun e' s'' => R (.error e') s'') s') s₁)
    (hco : scope.isCoroutine = false) (hgen : scope.isGenerator = false) (hk : scope.kind = .function) : codeAny (model prog w) A (.call (.ref f) args) R s := by
  refine codeAny_call_function hroom (X _ _ ho) rfl hco hgen rfl (codeRec_of X hcd) (hbind _ _ _ _ ?_)
  refine wpAny_newFunctionEnv_cells hk (kindsX hkind _) fun env he s₁ x => ?_
  subst he
  exact ⟨hlim.keeps x.toInCall.keep, codeAny_func (h s₁ x)⟩

/-- C(..): dict at size, instance at size + 1, then __init__ -/
theorem make_obj {R : Result → Shared → Prop} {C fI : Addr} {rest : List Value} {kw : List (Str × Value)}
    (X : K.In s.heap) (hm : makesIn K C = true) (hi : findIn K (.ref C) "__init__" = some (some (.ref fI))) (hf : isFn K (.ref fI) = true)
    (h : codeAny (model prog w) (A.under (.builtin "type.__call__" ⟨.ref C :: rest, kw⟩)) (.call (.ref fI) ⟨.ref (s.heap.objs.size + 1) :: rest, kw⟩) (InitBack (s.heap.objs.size + 1) R)
      { s with heap := (s.heap.push emptyDict).push (instObj C s.heap.objs.size) }) : codeAny (model prog w) A (.call (.ref C) ⟨rest, kw⟩) R s := by
  obtain ⟨hh, g, d, t, os⟩ := s
  exact make_core (makes_of X hm) (looks_findIn X hi) (fun self => bind_fn X self (beq_iff_eq.mp hf)) (.inl rfl) h

/-- x.name where the instance's dict holds the name and the class does not -/
theorem get_field {x C : Addr} {ox : Obj} {es : List DictEntry} {n : Nat} {name : Str} {expr : Bool} {v : Value} {Q : Value → Shared → Prop}
    (X : K.In s.heap) (I : PySem.W.InstAt s.heap x ox C (some (dictOf es n))) (hg : plainGet K C name = true) (hh : hasDictIn K C = true) (ha : findIn K (.ref C) name = some none)
    (hl : getL name es = some (some v)) (hv : handedIn v = true) (h : Q v { s with toks := s.toks + 1 }) : wpAny (model prog w) A (getAttr (.ref x) name expr) Q E s :=
  get_value X I (plainGet_of hg).1 (findObj_own hh ha rfl hl) hv h

/-- x.m(..): the method found in the class -/
theorem get_method {x C f : Addr} {ox : Obj} {es : List DictEntry} {n : Nat} {name : Str} {pl : Sem Bool} {Q : Value × List Value → Shared → Prop}
    (X : K.In s.heap) (I : PySem.W.InstAt s.heap x ox C (some (dictOf es n))) (hg : plainGet K C name = true) (hf : findIn K (.ref C) name = some (some (.ref f))) (ht : isFn K (.ref f) = true)
    (hl : getL name es = some none) (h : Q (.ref f, [.ref x]) s) : wpAny (model prog w) A (getMethod (.ref x) name pl) Q E s :=
  method_fn X I (plainGet_of hg).1 (plainGet_of hg).2 hf (beq_iff_eq.mp ht) (by show (lookIn name (dictOf es n)).map _ = _; rw [lookIn_dict, hl]; rfl) h

/-! the whole heap as the ledger: makes every rule that writes through a ledger a rule over any heap -/
def noObjs (h : Heap) : Heap := { h with objs := #[] }
theorem noObjs_get (h : Heap) (b : Addr) : (noObjs h).get? b = none := by
  cases e : (noObjs h).get? b with
  | none => rfl
  | some o => exact absurd (Heap.lt_size e) (Nat.not_lt_zero _)
def ledger (h : Heap) (L d : Addr) : List (Addr × Obj) := (List.range h.objs.size).filterMap fun a => if a = L ∨ a = d then none else (h.get? a).map fun o => (a, o)
theorem mem_ledger {h : Heap} {L d a : Addr} {o : Obj} : (a, o) ∈ ledger h L d ↔ a ≠ L ∧ a ≠ d ∧ h.get? a = some o := by
  unfold ledger
  rw [List.mem_filterMap]
  constructor
  · rintro ⟨b, _, e⟩
    split at e
    · cases e
    · rename_i hb
      obtain ⟨o', ho, e'⟩ := Option.map_eq_some_iff.mp e
      cases e'
      exact ⟨fun q => hb (.inl q), fun q => hb (.inr q), ho⟩
  · rintro ⟨n1, n2, ho⟩
    refine ⟨a, List.mem_range.mpr (Heap.lt_size ho), ?_⟩
    rw [if_neg (show ¬ (a = L ∨ a = d) from fun q => q.elim n1 n2), ho] <;> rfl
theorem news_ledger {h : Heap} {L d : Addr} {od : Obj} (hne : d ≠ L) (ho : h.get? d = some od) : News (noObjs h) L h ([] ++ (d, od) :: ledger h L d) := by
  rintro ⟨a, o⟩ hp
  rcases List.mem_cons.mp hp with e | hp
  · cases e
    exact ⟨ho, hne, noObjs_get _ _⟩
  · obtain ⟨n1, n2, e⟩ := mem_ledger.mp hp
    exact ⟨e, n1, noObjs_get _ _⟩
theorem fr_all {h : Heap} {L : Addr} {m : Str → Option Value} (n : h.Ns L m) : Fr (noObjs h) L h m :=
  ⟨n, fun b o e => (by rw [noObjs_get] at e; cases e), Nat.zero_le _⟩
/-- Upd of the head entry (for append_K, setItem_K ..) -/
theorem upd_ledger {h : Heap} {L d : Addr} {o o' : Obj} : Upd d o o' ((d, o) :: ledger h L d) ((d, o') :: ledger h L d) :=
  .head fun ⟨_, _⟩ hp => (mem_ledger.mp hp).2.1

/-- x.name = v over any heap: L is any namespace of the heap (the frame's, say): its map stays, its object is not told; all else but the dict stays -/
theorem set_field {x C dx L : Addr} {ox : Obj} {m : Str → Option Value} {es es' : List DictEntry} {n n' : Nat} {name : Str} {v : Value} {Q : Unit → Shared → Prop}
    (X : K.In s.heap) (I : PySem.W.InstAt s.heap x ox C (some (dictOf es n))) (hd : ox.dict = some dx) (hL : s.heap.Ns L m) (hne : dx ≠ L)
    (hs : findIn K (.ref C) "__setattr__" = some (some (.builtin "object.__setattr__"))) (hp : plainOver K C = true) (ht : takerIn K C name = some none) (hh : hasDictIn K C = true) (hl : (getL name es).isSome = true)
    (e : (putL name (PyData.keyHash w.params name) (.str name (s.toks + 1)) v es, putN name es n) = (es', n')) (hz : es'.length ≤ 1000)
    (h : ∀ h' : Heap, h'.Ns L m → h'.get? dx = some (dictOf es' n') → (∀ b o, b ≠ dx → b ≠ L → s.heap.get? b = some o → h'.get? b = some o) → Q () { s with heap := h', toks := s.toks + 2 }) :
    wpAny (model prog w) A (setAttr (.ref x) name v) Q E s := by
  obtain ⟨e1, e2⟩ := Prod.mk.inj e
  have hdx : s.heap.get? dx = some (dictOf es n) := by
    have := I.dict
    rw [hd] at this
    exact this
  refine set_plain X I hs (osa_dict (s := { s with toks := s.toks + 1 }) (h₀ := noObjs s.heap) (L := L) (m := m) (od := dictOf es n) (od' := dictOf es' n') (es := es') (n := n') (pre := []) (post := ledger s.heap L dx)
    (fr_all hL) (news_ledger hne hdx) X I hd hp ht hh hl (fun _ q => nomatch q) (fun ⟨_, _⟩ q => (mem_ledger.mp q).2.1) (by rw [putName_dict, e1, e2]) rfl hz fun h' F' N' => ?_)
  exact h h' F'.ns (N'.get (List.Mem.head _)) fun b o n1 n2 ho => N'.get (List.Mem.tail _ (mem_ledger.mpr ⟨n2, n1, ho⟩))
end
end Att

namespace L2
open PySem PySem.Spec PyProof.Rows

theorem vals_ints : ∀ {vs : List Value} {ns : List Int}, IntsAre vs ns → Vals (ns.map V.int) vs
  | _, _, .nil => .nil
  | _, _, .cons n t h => .cons ⟨t, rfl⟩ (vals_ints h)

/-- nothing is tracked but the script, known to the object (or it is an object of the module) -/
def Only (H : Hp) : Prop := ∀ b, H b = none ∨ ∃ o xs, H b = some (.frz o (.lst xs))

/-- THE HEAD: the law's promise, at the heap behind the top. F, the promise of the law's def, may use that base is part of the heap (so K.In base, base.Ns mainGlobals mg stand in Mod) -/
theorem law_call {P : Program} {w : World} {K : PySem.W.Frag} {mg mb : Str → Option Value} {CX : CXT} {k : Nat} {fa a : Addr} {fd : FuncData} {x : Str} {sp : Sp} {s₁ : Shared} {vs : List Value} {ns : List Int}
    (KX : K.In s₁.heap) (hns : s₁.heap.Ns mainGlobals mg) (hb : s₁.heap.Ns builtinsNs mb) (hbb : ∀ x : Str, x ≠ "__name__" → mb x = bootBuiltins x) (hlim : s₁.heap.NoLimit) (hg : s₁.gens = #[])
    (ha : s₁.heap.get? a = some { cls := .type "list", data := .seq vs.toArray }) (hi : IntsAre vs ns) (hl : ns.length ≤ sizeLine) (hr : Room k callerA)
    (F : ∀ base : Heap, K.In base → base.Ns mainGlobals mg → FnOk P w K mg base CX k fa fd [x] sp) (hbind : ∀ (s : Shared) (u : Value), BindsTo s fd ⟨[u], []⟩ [(x, u)])
    (hsp : ∀ H : Hp, Only H → SqL K H a (ns.map V.int) → sp [.ref a] H (fun v _ => v = .bl true) fun _ _ _ => False)
    (hCX : ∀ H e s', CX [] H s₁ (fun _ _ _ => False) e s' → False) :
    codeAny (model P w) callerA (.call (.ref fa) ⟨[.ref a], []⟩) (fun r s' => r = .ok (.ret (.bool true)) ∧ OldK s₁.heap s'.heap ∧ s'.os = s₁.os ∧ AllBare s'.gens) s₁ := by
  have rv := vals_ints hi
  have lenV := hi.length
  -- from an abstract heap in which nothing but the script may be tracked
  have core : ∀ H : Hp, Only H → SqL K H a (ns.map V.int) → HOk P w H s₁.heap → (∀ b, H b ≠ none → b = a) → (H a ≠ none → K.lookup a = none) →
      codeAny (model P w) callerA (.call (.ref fa) ⟨[.ref a], []⟩) (fun r s' => r = .ok (.ret (.bool true)) ∧ OldK s₁.heap s'.heap ∧ s'.os = s₁.os ∧ AllBare s'.gens) s₁ := by
    intro H hO hS hok hA hK
    have base_of : ∀ {b : Addr} {o : Obj}, s₁.heap.get? b = some o → H b = none → (hidT s₁.heap H).get? b = some o := fun e n => hidT_get e n
    have noA : ∀ {b : Addr} {o : Obj} {es : Array DictEntry} {ep : Nat}, s₁.heap.get? b = some o → o.data = .dict es ep → H b = none := fun {b o es ep} e d => by
      cases q : H b with
      | none => rfl
      | some u =>
        have e' : b = a := hA b (by rw [q]; simp)
        subst e'
        rw [ha] at e; cases e
        have d' : Data.seq vs.toArray _ = Data.dict es ep := d
        cases d'
    have nsK : ∀ {b : Addr} {m : Str → Option Value}, s₁.heap.Ns b m → (hidT s₁.heap H).Ns b m := fun {b m} ⟨o, es, ep, e, d, r⟩ => ⟨o, es, ep, base_of e (noA e d), d, r⟩
    have hKb : K.In (hidT s₁.heap H) := fun b o e => base_of (KX b o e) (by
      cases q : H b with
      | none => rfl
      | some u =>
        have e' : b = a := hA b (by rw [q]; simp)
        subst e'
        rw [hK (by rw [q]; simp)] at e; cases e)
    have hM : Mod K mg (hidT s₁.heap H) := ⟨hKb, nsK hns, ⟨mb, nsK hb, hbb⟩, let ⟨mc, h1, h2⟩ := hlim; ⟨mc, nsK h1, h2⟩⟩
    have e0 : Env0 P w K mg (hidT s₁.heap H) callerA [] s₁ H := ⟨rfl, hM, fun b o e => of_hidT e, Nat.le_of_eq (hidT_size _ _), trivial, fun b hb => absurd (show b ∈ ([] : List Addr) from hb) (by simp), hok, .of_eq hg⟩
    refine codeAny_mono ((F _ hKb (nsK hns)).run callerA [] s₁ H ⟨[.ref a], []⟩ [.ref a] [.ref a] _ _ hr e0 (hbind s₁ (.ref a)) (.cons rfl .nil) (hsp H hO hS)) fun r s' h => ?_
    cases r with
    | error e => exact (hCX H e s' h).elim
    | ok fl =>
      cases fl with
      | next => exact False.elim h
      | brk => exact False.elim h
      | cont => exact False.elim h
      | ret u =>
        obtain ⟨v, H', os, bare, un, hok', r', q⟩ := h
        have q' : v = .bl true := q
        subst q'
        obtain rfl : u = Value.bool true := r'
        refine ⟨rfl, OldK.of_keep fun b o e => ?_, os, bare⟩
        cases q : H b with
        | none => exact un.keep b o e q (by intro z; exact absurd (show b ∈ ([] : List Addr) from z) (by simp)) (by simp)
        | some u =>
          rcases hO b with z | ⟨ob, xs, z⟩
          · rw [q] at z; cases z
          · have z2 := un.frzs b ob _ z
            obtain ⟨e1, _⟩ := hok b _ z
            obtain ⟨e2, _⟩ := hok' b _ z2
            rw [e] at e1; cases e1
            exact e2
  cases hk : K.lookup a with
  | some o =>
    -- the script is one of the module's own objects
    have e := KX a o hk
    rw [ha] at e
    cases e
    refine core (fun _ => none) (fun _ => .inl rfl) (.inr ⟨_, vs.toArray, _, hk, rfl, rfl, rfl, by rw [List.size_toArray, lenV]; exact hl, by simpa using rv⟩) (fun b u z => by have z' : (none : Option HO) = some u := z; cases z') (fun b z => absurd rfl z) fun z => absurd rfl z
  | none =>
    refine core (fun b => if b = a then some (.frz { cls := .type "list", data := .seq vs.toArray } (.lst (ns.map V.int))) else none) (fun b => ?_) (.inl (.inr ⟨{ cls := .type "list", data := .seq vs.toArray }, if_pos rfl⟩)) (fun b u z => ?_) (fun b z => ?_) fun _ => hk
    · by_cases hb : b = a
      · exact .inr ⟨_, _, if_pos hb⟩
      · exact .inl (if_neg hb)
    · by_cases hb : b = a
      · have z' := (if_pos hb).symm.trans z
        cases z'
        subst hb
        exact ⟨ha, by rw [List.length_map]; exact hl, vs, _, rv, ha⟩
      · have z' := (if_neg hb).symm.trans z
        cases z'
    · by_cases hb : b = a
      · exact hb
      · exact absurd (if_neg hb) z
end L2

namespace L2
open PySem PySem.Spec PyProof.Rows

abbrev KOf {K : PySem.W.Frag} {h : Heap} (_ : K.In h) : PySem.W.Frag := K

/-- the goal that k_head leaves (case hc), from the law's promise. F gives the function object fd (K's own) once, then the promise over every base -/
theorem walk_of {l : PySem.W.OpenLaw} {n k : Nat} {q : Program} {loose : List Str} {XP : (Str → Option Value) → Heap → Prop} {YP : World → Heap → Prop} {d : DefRec} {K : Params → PySem.W.Frag} {CX : World → CXT} {sp : World → Sp} {x : Str}
    (hn : l.most = some n) (hn2 : n ≤ sizeLine) (hdf : d.params.defaults = []) (hr : Room k callerA)
    (hY : ∀ (w : World) (h : Heap), YP w h → (K w.params).In h)
    (F : ∀ (w : World) (mg : Str → Option Value) (fa : Addr) (h : Heap), (K w.params).In h → h.Ns mainGlobals mg → mg d.name = some (.ref fa) →
      ∃ fd : FuncData, (∀ (s : Shared) (u : Value), BindsTo s fd ⟨[u], []⟩ [(x, u)]) ∧
        ∀ base : Heap, (K w.params).In base → base.Ns mainGlobals mg → FnOk l.prog w (K w.params) mg base (CX w) k fa fd [x] (sp w))
    (hsp : ∀ (w : World) (H : Hp) (a : Addr) (ns : List Int), ns.length ≤ n → Only H → SqL (K w.params) H a (ns.map V.int) → sp w [.ref a] H (fun v _ => v = .bl true) fun _ _ _ => False)
    (hCX : ∀ (w : World) (H : Hp) (s : Shared) (e : Value) (s' : Shared), CX w [] H s (fun _ _ _ => False) e s' → False) :
    PySem.W.WalkO q loose XP YP l.row.toRowW d [] (fun f vs => PySem.call f vs) := by
  refine Att.attach_call hn hdf fun w s₀ s₁ mg mb fa o pm cd doc a vs ns G Y ho hd hcd hmg hobj hints hlen hg => ?_
  have KX := hY w _ Y
  obtain ⟨fd, hb, hF⟩ := F w mg fa _ KX G.T.g hmg
  exact law_call KX G.T.g G.T.b G.T.builtins G.T.nolimit hg hobj hints (Nat.le_trans hlen hn2) hr hF hb (fun H hO hS => hsp w H a ns hlen hO hS) fun H e s' => hCX w H s₁ e s'
/-- the same where the promise hangs on the written part alone: (sp := My.sp_law), no hole under a binder -/
theorem walk_ofK {l : PySem.W.OpenLaw} {n k : Nat} {q : Program} {loose : List Str} {XP : (Str → Option Value) → Heap → Prop} {YP : World → Heap → Prop} {d : DefRec} {K : Params → PySem.W.Frag} {CX : CXT} {sp : PySem.W.Frag → Sp} {x : Str}
    (hn : l.most = some n) (hn2 : n ≤ sizeLine) (hdf : d.params.defaults = []) (hr : Room k callerA)
    (hY : ∀ (w : World) (h : Heap), YP w h → (K w.params).In h)
    (F : ∀ (w : World) (mg : Str → Option Value) (fa : Addr) (h : Heap), (K w.params).In h → h.Ns mainGlobals mg → mg d.name = some (.ref fa) →
      ∃ fd : FuncData, (∀ (s : Shared) (u : Value), BindsTo s fd ⟨[u], []⟩ [(x, u)]) ∧
        ∀ base : Heap, (K w.params).In base → base.Ns mainGlobals mg → FnOk l.prog w (K w.params) mg base CX k fa fd [x] (sp (K w.params)))
    (hsp : ∀ (K : PySem.W.Frag) (H : Hp) (a : Addr) (ns : List Int), ns.length ≤ n → Only H → SqL K H a (ns.map V.int) → sp K [.ref a] H (fun v _ => v = .bl true) fun _ _ _ => False)
    (hCX : ∀ (H : Hp) (s : Shared) (e : Value) (s' : Shared), CX [] H s (fun _ _ _ => False) e s' → False) :
    PySem.W.WalkO q loose XP YP l.row.toRowW d [] (fun f vs => PySem.call f vs) :=
  walk_of (K := K) (CX := fun _ => CX) (sp := fun w => sp (K w.params)) hn hn2 hdf hr hY F (fun w H a ns h1 h2 h3 => hsp (K w.params) H a ns h1 h2 h3) fun _ H s e s' => hCX H s e s'
end L2

/- THE LAST THEOREM (shape; LID, My.* are yours):
   My.Adr: a structure of the addresses that your layer names (classes, functions); My.Txt K t: a structure (Prop) of the equations over K;
   My.txt_mk : {K} {implicit addresses ..} (e1 : nsIn K mainGlobals "law" = some (some (.ref f))) (e2 : K.lookup f = some ⟨oc, od, .func (fnOf "law" "law" params body scope dV kV doc pm an cdv ct), sl⟩) (e3 : codeIn K cdv "law" = true) .. : ∃ t, My.Txt K t

set_option maxRecDepth 100000 in
set_option maxHeartbeats 0 in
theorem PySem.Challenge.cw_LID_holds : PySem.Challenge.rw_LID.Holds := by
  w_on; o_law; k_head; (case hw => w_witness2)
  k_fill
  refine L2.walk_of (l := PySem.Challenge.rw_LID) (n := 63) (k := 40) (x := "script") (CX := fun w => ..) (sp := fun _ => My.sp_law) rfl (by decide) rfl ⟨rfl, by decide, by decide⟩ (fun w h Y => PySem.W.kIn_of Y) ?F ?S ?C
  case F =>
    intro w mg fa h KX G hmg
    have T : ∃ t, My.Txt (L2.KOf KX) t := by
      dsimp only [L2.KOf]                          -- K must stand as «<heap const> w.params» for k_is
      refine' My.txt_mk ?e1 ?e2 ?e3 ..
      (case e1 => PySem.W.k_is)                    -- in the order: a name -> its address -> its object -> its parts
      (case e2 => PySem.W.k_is)
      ..
    obtain ⟨t, T⟩ := T
    have e0 := hmg.symm.trans (PySem.W.mg_of KX G T.law)
    cases e0                                       -- fa is the law's own address
    exact ⟨_, fun s u => .of_eq rfl, fun base kb nb => My.law_fn T kb nb⟩     -- if «.of_eq rfl» comes too early: refine' ⟨_, ?b, fun base kb nb => My.law_fn T kb nb⟩; exact fun s u => .of_eq rfl
  case S => exact fun w H a ns hl hO hS => ..
  case C => exact ..
(the tactic k_is has no namespace: write k_is) -/

/-! SHORT WORDS over the layer: a def of the text, its body, what a loop and a test want. -/
namespace L2
open PySem PySem.Spec PyProof.Rows

/-! ### the text by places -/
/-- the j-th statement of a class's body -/
def inClass (s : Stmt) (j : Nat) : Stmt := match s with
  | .ClassDef _ _ _ body _ _ _ _ _ _ _ => body.getD j (.Pass ⟨0, 0, 0, 0⟩)
  | _ => .Pass ⟨0, 0, 0, 0⟩
def defArgs (s : Stmt) : Arguments := match s with
  | .FunctionDef _ a _ _ _ _ _ _ _ _ => a
  | _ => { posonlyargs := [], args := [], vararg := none, kwonlyargs := [], kw_defaults := [], kwarg := none, defaults := [] }
def defBody (s : Stmt) : List Stmt := match s with
  | .FunctionDef _ _ b _ _ _ _ _ _ _ => b
  | _ => []
def defScope (s : Stmt) : Scope := match s with
  | .FunctionDef _ _ _ _ _ _ sc _ _ _ => sc
  | _ => { kind := .function, names := [], isGenerator := false, isCoroutine := false }

/-! ### no exception leaves a def -/
abbrev CX0 : CXT := fun _ _ _ _ _ _ => False
abbrev E0 : XK := fun _ _ _ => False
theorem pass0 {X : Cx} : Passes CX0 X E0 := fun _ _ _ _ _ _ _ h => h.elim

/-! ### a def (or method) of the text as it stands behind the top -/
structure Fun (K : PySem.W.Frag) (x qual : Str) (st : Stmt) (f : Addr) (fd : FuncData) : Prop where
  ex : ∃ (oc : Value) (od : Option Addr) (kV doc pm : Value) (an : Option Addr) (cdv ct : Value) (osl : Array (Option Value)),
    fd = PySem.W.fnOf x qual (defArgs st) (defBody st) (defScope st) .none kV doc pm an cdv ct ∧ K.lookup f = some ⟨oc, od, .func fd, osl⟩ ∧ PySem.W.codeIn K cdv qual = true
  kp : PySem.W.keepIn K (.ref f) = true
section
variable {P : Program} {w : World} {K : PySem.W.Frag} {mg : Str → Option Value} {base : Heap}
/-- THE RULE for a def: its body as a term of rules, and the reading of that term -/
theorem Fun.ok {x qual : Str} {st : Stmt} {f : Addr} {fd : FuncData} {N ps : List Str} {k : Nat} {sp : Sp} (F : Fun K x qual st f fd) (S : FnScope N ps (defScope st)) (len : ∀ vs H Q E, sp vs H Q E → vs.length = ps.length)
    (hbody : ∀ (cdv : Value) (A : Around) (outer : List Env) (s : Shared) (H : Hp) (vs : List V) (Q : VK) (E : XK), Room k (A.deeper (envOfC qual (defScope st) s.heap.objs.size f cdv)) → sp vs H Q E →
      ∃ t, PSs (cxOf CX0 P w K mg base N qual (defScope st) f cdv A outer s H E).nox (defBody st) t ∧ t { nx := fun _ H' => Q .non H', rt := Q } (start N vs) H) : FnOk P w K mg base CX0 (k + 1) f fd ps sp := by
  obtain ⟨oc, od, kV, doc, pm, an, cdv, ct, osl, rfl, lk, hcd⟩ := F.ex
  refine fn_of lk hcd S len fun A outer s H vs Q E hr hsp => ?_
  obtain ⟨t, h, q⟩ := hbody cdv A outer s H vs Q E hr hsp
  exact ⟨t, h.nox, q⟩
/-- how its arguments bind (no defaults): h is «fun _ _ _ _ _ _ us hl => match us, hl with | [_, _], _ => rfl», one _ a parameter -/
theorem Fun.binds {x qual : Str} {st : Stmt} {f : Addr} {fd : FuncData} {ps : List Str} (F : Fun K x qual st f fd)
    (h : ∀ (kV doc pm : Value) (an : Option Addr) (cdv ct : Value) (us : List Value), us.length = ps.length → bindArgs (PySem.W.fnOf x qual (defArgs st) (defBody st) (defScope st) .none kV doc pm an cdv ct) ⟨us, []⟩ = pure (ps.zip us)) : Binds K fd ps [] := by
  obtain ⟨oc, od, kV, doc, pm, an, cdv, ct, osl, rfl, lk, hcd⟩ := F.ex
  exact .all (h kV doc pm an cdv ct)
theorem fun_mk {x qual : Str} {st : Stmt} {f : Addr} {oc : Value} {od an : Option Addr} {osl : Array (Option Value)} {kV doc pm cdv ct : Value} (l : K.lookup f = some ⟨oc, od, .func (PySem.W.fnOf x qual (defArgs st) (defBody st) (defScope st) .none kV doc pm an cdv ct), osl⟩)
    (c : PySem.W.codeIn K cdv qual = true) (k : PySem.W.keepIn K (.ref f) = true) : Fun K x qual st f (PySem.W.fnOf x qual (defArgs st) (defBody st) (defScope st) .none kV doc pm an cdv ct) := ⟨⟨oc, od, kV, doc, pm, an, cdv, ct, osl, rfl, l, c⟩, k⟩
end
theorem hu_of {A : Around} {k : Nat} (hr : Room k A) : A.units + 1 < cLine := Nat.lt_of_le_of_lt (Nat.add_le_add_left (by decide : 1 ≤ 64) _) hr.units
theorem small1000 {n : Nat} (h : n ≤ 1000) : n < sizeLine := Nat.lt_of_le_of_lt h (by decide)

/-! ### expressions in short: the name that stands in the i-th slot -/
section
variable {X : Cx}
theorem pv (i : Nat) {x : Str} {pos : Pos} (hN : X.N[i]? = some x := by rfl) (hv : Vis X.env.scope x := by first | exact Or.inl rfl | exact Or.inr (Or.inl rfl) | exact Or.inr (Or.inr rfl)) (hd : (x == ("__debug__" : Str)) = false := by decide)
    (hcd : (x == ("__classdict__" : Str)) = false := by decide) : PE X (.Name x pos) (tVar i) := pe_var hN hv hd hcd
end

/-! ### tests -/
theorem iteF {A B : Prop} (h : B) : if false = true then A else B := by
  rw [if_neg Bool.false_ne_true]
  exact h
theorem iteT {A B : Prop} (h : A) : if true = true then A else B := by
  rw [if_pos rfl]
  exact h
theorem ite2 {c A B : Prop} [Decidable c] (h1 : c → A) (h2 : ¬ c → B) : if c then A else B := by
  by_cases h : c
  · rw [if_pos h]
    exact h1 h
  · rw [if_neg h]
    exact h2 h
theorem iteNS {c A B : Prop} [Decidable c] (hc : c) (h : B) : if (!decide c) = true then A else B := by
  rw [decide_eq_true hc]
  exact iteF h

/-! ### heaps -/
/-- all that was tracked is as it was -/
def Same (H H' : Hp) : Prop := ∀ b o, H b = some o → H' b = some o
theorem Same.refl (H : Hp) : Same H H := fun _ _ h => h
theorem Same.trans {H H1 H2 : Hp} (a : Same H H1) (b : Same H1 H2) : Same H H2 := fun c o h => b c o (a c o h)
theorem Same.free {H H' : Hp} (e : Same H H') {l : Addr} (h : H' l = Option.none) : H l = Option.none := by
  cases q : H l with
  | none => rfl
  | some o =>
    rw [e l o q] at h
    cases h
theorem Same.seq {K : PySem.W.Frag} {H H' : Hp} {a : Addr} {xs : List V} (e : Same H H') (h : SqL K H a xs) : SqL K H' a xs := by
  rcases h with (h | ⟨o, h⟩) | h
  · exact .inl (.inl (e _ _ h))
  · exact .inl (.inr ⟨o, e _ _ h⟩)
  · exact .inr h

end L2

set_option maxHeartbeats 4000000
/-! EXTENSION OF THE HAND LAYER: own exceptions raised, passed on and caught; isinstance; lists compared; reversed. -/
namespace L2
open PySem PySem.Spec PyProof.Rows

theorem ObjOk.there {P : Program} {w : World} {H : Hp} {h : Heap} {a : Addr} {o : HO} (x : ObjOk P w H h a o) : ∃ ob, h.get? a = some ob := by
  cases o with
  | lst xs => obtain ⟨_, _, _, _, e⟩ := x; exact ⟨_, e⟩
  | tup xs => obtain ⟨_, _, _, p⟩ := x; obtain ⟨o, e, _⟩ := p; exact ⟨o, e⟩
  | dK kvs => obtain ⟨_, _, _, _, o, _, _, e, _⟩ := x; exact ⟨o, e⟩
  | dT kvs => obtain ⟨_, _, _, _, o, _, _, e, _⟩ := x; exact ⟨o, e⟩
  | set S n => obtain ⟨o, _, _, _, e, _⟩ := x; exact ⟨o, e⟩
  | ins C dx fs => obtain ⟨_, _, _, e, _⟩ := x; exact ⟨_, e⟩
  | own y => exact x
  | xd fs => obtain ⟨_, ⟨o, _, _, e, _⟩, _⟩ := x; exact ⟨o, e⟩
  | rng lo hi => obtain ⟨_, _, _, e⟩ := x; exact ⟨_, e⟩
  | frz ob u => exact ⟨ob, x.1⟩
  | tbl ps => exact ⟨_, x⟩
  | met f y => exact ⟨_, x⟩
  | ext φ => exact x.2.1

/-! ### an exception on its way: B is what stood when it was made, but for the frames -/
structure Fly (P : Program) (w : World) (outer : List Env) (H : Hp) (s : Shared) (B : Heap) (H' : Hp) (s' : Shared) : Prop where
  os : s'.os = s.os
  bare : AllBare s'.gens
  un : Un (frs outer) [] H H' s.heap s'.heap
  hok : HOk P w H' s'.heap
  stay : B.StaysIn s'.heap
  trk : ∀ b, H' b ≠ none → ∃ o, B.get? b = some o
  old : ∀ b o, s.heap.get? b = some o → H b = none → b ∉ frs outer → B.get? b = some o
  there : ∀ b o, s.heap.get? b = some o → b ∉ frs outer → ∃ o', B.get? b = some o'

def FlyX (P : Program) (w : World) (outer : List Env) (H : Hp) (s : Shared) (E : XK) (e : Value) (s' : Shared) : Prop :=
  ∃ (ea C : Addr) (a0 : Value) (B : Heap) (H' : Hp), e = .ref ea ∧ Fly P w outer H s B H' s' ∧ Heap.FlyingW B outer ea (.ref C) a0 s'.heap ∧ E (.ref C) none H'
abbrev CX1 (P : Program) (w : World) : CXT := fun outer H s E e s' => FlyX P w outer H s E e s'

section
variable {P : Program} {w : World} {outer : List Env} {H H' : Hp} {s s' : Shared} {B h5 : Heap}
theorem hok_stay (hok : HOk P w H' s'.heap) (st : B.StaysIn s'.heap) (trk : ∀ b, H' b ≠ none → ∃ o, B.get? b = some o) (st5 : B.StaysIn h5) : HOk P w H' h5 := fun a o e => by
  refine (hok a o e).stay (fun b u hb q => ?_) (fun _ q => q) fun _ _ q => q
  have hn : H' b ≠ none := by
    rcases hb with rfl | hb
    · rw [e]; intro z; cases z
    · rw [hb]; intro z; cases z
  obtain ⟨o', e'⟩ := trk b hn
  have e2 := st b o' e'
  rw [q] at e2
  cases e2
  exact st5 b _ e'
/-- the heap moves on: what stood stays, the frames up to their slots -/
theorem Fly.move {base : Heap} {t : Nat} (f : Fly P w outer H s B H' s') (funs : s.heap.FunFrames base outer) (frf : ∀ b ∈ frs outer, H b = none) (st : B.StaysIn h5) (up : s'.heap.UpToSlots h5) :
    Fly P w outer H s B H' { s' with heap := h5, toks := t } := by
  have sl : ∀ b o, s.heap.get? b = some o → H b = none → b ∈ frs outer → ∃ sl, h5.get? b = some { o with slots := sl } := fun b o e n hb => by
    obtain ⟨sl, e1⟩ := f.un.any e n (by simp)
    obtain ⟨_, o', e', nf⟩ := funs.mem hb
    rw [e] at e'
    cases e'
    obtain ⟨sl2, e2⟩ := up b _ e1 nf
    exact ⟨sl2, e2⟩
  refine ⟨f.os, f.bare, ⟨fun b o e n hb _ => st b o (f.old b o e n hb), fun b o e n hb _ => sl b o e n hb, fun b o e n hx => f.un.free b o e n hx, fun b o e hx => ?_, f.un.tups, f.un.frzs, f.un.tbls⟩,
    hok_stay f.hok f.stay f.trk st, st, f.trk, f.old, f.there⟩
  by_cases hb : b ∈ frs outer
  · obtain ⟨z, q⟩ := sl b o e (frf b hb) hb
    exact ⟨_, q⟩
  · obtain ⟨o', q⟩ := f.there b o e hb
    exact ⟨o', st b o' q⟩
end

section
variable {X : Cx} {pins : List (Addr × Obj)} {σ : St} {H H' : Hp} {s s' : Shared} {B : Heap}
theorem Inv.offStack (I : Inv X pins σ H s) {b : Addr} {o : Obj} (e : X.s₀.heap.get? b = some o) (hb : b ∉ X.fs) : b ∉ frs X.stack := fun z => by
  rcases List.mem_cons.mp (I.stkSub b z) with q | q
  · exact absurd (Nat.lt_of_lt_of_le (Heap.lt_size e) I.ok.above) (by rw [q]; exact Nat.lt_irrefl _)
  · exact hb q
/-- seen from the caller's caller -/
theorem Fly.back (I : Inv X pins σ H s) (hx : X.ex = []) (f : Fly X.prog X.w X.stack H s B H' s') : Fly X.prog X.w X.outer X.H₀ X.s₀ B H' s' := by
  have nx : ∀ b : Addr, b ∉ X.ex := fun b => by rw [hx]; simp
  refine ⟨f.os.trans I.os, f.bare, ⟨fun b o e n hb _ => ?_, fun b o e n hb _ => ?_, fun b o e n _ => ?_, fun b o e _ => ?_, fun b xs q => f.un.tups b xs (I.base.tups b xs q), fun b o u q => f.un.frzs b o u (I.base.frzs b o u q), fun b ps q => ?_⟩,
    f.hok, f.stay, f.trk, fun b o e n hb => ?_, fun b o e hb => ?_⟩
  · exact f.stay b o (f.old b o (I.base.keep b o e n hb (nx b)) (I.base.free b o e n (nx b)) (I.offStack e hb))
  · obtain ⟨sl, e1⟩ := I.base.slot b o e n hb (nx b)
    obtain ⟨sl2, e2⟩ := f.un.any e1 (I.base.free b o e n (nx b)) (by simp)
    exact ⟨sl2, e2⟩
  · obtain ⟨o', e1⟩ := I.base.there b o e (nx b)
    exact f.un.free b o' e1 (I.base.free b o e n (nx b)) (by simp)
  · obtain ⟨o', e1⟩ := I.base.there b o e (nx b)
    exact f.un.there b o' e1 (by simp)
  · obtain ⟨m1, e1⟩ := I.base.tbls b ps q
    obtain ⟨m2, e2⟩ := f.un.tbls b _ e1
    exact ⟨m1 ++ m2, by rw [e2, Array.append_assoc]⟩
  · exact f.old b o (I.base.keep b o e n hb (nx b)) (I.base.free b o e n (nx b)) (I.offStack e hb)
  · obtain ⟨o', e1⟩ := I.base.there b o e (nx b)
    exact f.there b o' e1 (I.offStack e hb)
end

/-! ### a def's body: an exception of a callee goes on; one is raised here -/
section
variable {P : Program} {w : World} {K : PySem.W.Frag} {mg : Str → Option Value} {base : Heap} {N : List Str} {qual : Str} {scope : Scope} {f : Addr} {cd : Value} {A : Around} {outer : List Env} {s₀ : Shared} {H₀ : Hp} {E : XK}
  {pins : List (Addr × Obj)} {σ : St} {H : Hp} {s : Shared}
theorem xe_pass {e : Value} {s' : Shared} (I : Inv (cxOf (CX1 P w) P w K mg base N qual scope f cd A outer s₀ H₀ E) pins σ H s) (h : FlyX P w (cxOf (CX1 P w) P w K mg base N qual scope f cd A outer s₀ H₀ E).stack H s E e s') :
    (cxOf (CX1 P w) P w K mg base N qual scope f cd A outer s₀ H₀ E).xe e s' := by
  obtain ⟨ea, C, a0, B, H', rfl, fl, fw, hE⟩ := h
  refine wpAny_leaves_onW I.ok.frames rfl fw fun h' fw' up => ?_
  have m := fl.move (t := s'.toks) I.stack I.stkFree fw'.1 up
  exact ⟨ea, C, a0, B, H', rfl, Fly.back I rfl m, fw', hE⟩
theorem passX : Passes (CX1 P w) (cxOf (CX1 P w) P w K mg base N qual scope f cd A outer s₀ H₀ E) E := fun _ _ _ _ _ _ I h => xe_pass I h
theorem xe_raise {C ea : Addr} {args : List Value} {h' : Heap} (I : Inv (cxOf (CX1 P w) P w K mg base N qual scope f cd A outer s₀ H₀ E) pins σ H s) (hx : Heap.MadeExcOf s.heap h' ea (.ref C) args) (hE : E (.ref C) none H) :
    (cxOf (CX1 P w) P w K mg base N qual scope f cd A outer s₀ H₀ E).xe (.ref ea) { s with heap := h' } := by
  have hin : ∀ env ∈ (cxOf (CX1 P w) P w K mg base N qual scope f cd A outer s₀ H₀ E).stack, ∀ b, env.frame = some b → b ∈ frs (cxOf (CX1 P w) P w K mg base N qual scope f cd A outer s₀ H₀ E).stack := fun env he b hb => List.mem_filterMap.mpr ⟨env, he, hb⟩
  refine wpAny_leaves_madeW (base := PySem.W.hideAll s.heap (frs (cxOf (CX1 P w) P w K mg base N qual scope f cd A outer s₀ H₀ E).stack)) I.ok.frames rfl (fun b o q => PySem.W.of_hideAll _ q) (PySem.W.funFrames_hide I.stack hin) hx fun h2 t fw htup hnt up => ?_
  have fl : Fly P w (cxOf (CX1 P w) P w K mg base N qual scope f cd A outer s₀ H₀ E).stack H s (PySem.W.hideAll s.heap (frs (cxOf (CX1 P w) P w K mg base N qual scope f cd A outer s₀ H₀ E).stack)) H s :=
    ⟨rfl, I.bare, Un.refl, I.hok, fun b o q => PySem.W.of_hideAll _ q, fun b hb => by
      cases e : H b with
      | none => exact absurd e hb
      | some u =>
        obtain ⟨ob, q⟩ := (I.hok b u e).there
        exact ⟨ob, PySem.W.hideAll_get _ q fun z => by rw [I.stkFree b z] at e; cases e⟩, fun b o q _ hb => PySem.W.hideAll_get _ q hb, fun b o q hb => ⟨o, PySem.W.hideAll_get _ q hb⟩⟩
  have m := fl.move (t := s.toks) I.stack I.stkFree fw.1 ((Heap.UpToSlots.of_keeps hx.keeps).trans up)
  exact ⟨ea, C, _, _, H, rfl, Fly.back I rfl m, fw, hE⟩
end
end L2

/-! ### raise, try -/
namespace L2
open PySem PySem.Spec PyProof.Rows
theorem PS.nox {X : Cx} {st : Stmt} {t : TS} (h : PS X.nox st t) : PS X st t := fun pins s σ H D I hw =>
  wpAny_mono (h pins s σ H D (I.wish _) hw) (fun _ _ q => SP.unwish q) fun _ _ z => z.elim
theorem passN {P : Program} {w : World} {X : Cx} : Passes (CX1 P w) X E0 := fun _ _ _ _ _ _ _ h => by
  obtain ⟨_, _, _, _, _, _, _, _, z⟩ := h
  exact z.elim
theorem exc_obj {K : PySem.W.Frag} {h : Heap} {C : Addr} {bmB : List Value} {newId : String} (X : K.In h) (q : PySem.W.excIn K C bmB newId = true) :
    ∃ bm N nm qn bs hdct sn sub ab col dd k0 k1 k2 k3 k5 mN, h.get? C = some (excClassObj nm qn C N bs bm hdct sn sub ab col dd k0 k1 k2 k3 k5 newId) ∧ h.Ns N mN ∧ mN "__init__" = none ∧ OwnTail h bmB bm := by
  unfold PySem.W.excIn at q
  split at q
  case h_2 => cases q
  case h_1 d0 c0 z0 ho =>
    split at q
    case h_2 => cases q
    case h_1 Cx bx a0 a1 a2 a3 nx a5 hm hs =>
      simp only [Bool.and_eq_true, beq_iff_eq, Bool.not_eq_true'] at q
      obtain ⟨⟨⟨⟨⟨e1, e2⟩, e3⟩, e4⟩, e5⟩, e6⟩ := q
      subst e1 e2
      cases c0
      dsimp only at hm e3 e5 e6
      subst hm e3
      have hz : z0 = #[a0, a1, a2, a3, some (.builtin nx), a5] := by
        cases z0
        simp only at hs
        rw [hs]
      subst hz
      exact ⟨bx, _, _, _, _, _, _, _, _, _, _, _, _, _, _, _, _, X _ _ ho, .of_isNs (PySem.W.isNs_of_in X e5), PySem.W.nsMap_none_of_in X e5 e6, PySem.W.tail_of_in X e4⟩

section
variable {P : Program} {w : World} {K : PySem.W.Frag} {mg : Str → Option Value} {base : Heap} {N : List Str} {qual : Str} {scope : Scope} {f : Addr} {cd : Value} {A : Around} {outer : List Env} {s₀ : Shared} {H₀ : Hp} {E : XK}
/-- raise C('..') -/
theorem ps_raise {x z : Str} {C : Addr} {np cpos pos zp : Pos} {zj : Nat} {B newId initId : String} {bmB : List Value} (FB : ExcBaseFacts B newId initId bmB) (hg : Gl (cxOf (CX1 P w) P w K mg base N qual scope f cd A outer s₀ H₀ E) x) (hm : mg x = some (.ref C))
    (q : PySem.W.excIn K C bmB newId = true) (hd : (x == ("__debug__" : Str)) = false := by decide) :
    PS (cxOf (CX1 P w) P w K mg base N qual scope f cd A outer s₀ H₀ E) (.Raise (some (.Call (.Name x np) [.Constant (.str z) zj zp] [] cpos)) none pos) (fun _ _ H => E (.ref C) none H) := by
  intro pins s σ H D I h
  obtain ⟨bm, N', nm, qn, bs, hdct, sn, sub, ab, col, dd, k0, k1, k2, k3, k5, mN, hC, hN, hni, T⟩ := exc_obj I.kIn q
  refine wpAny_Raise_call_subT (C := C) (nm := nm) (q := qn) (N := N') (bs := bs) (bm := bm) (hdct := hdct) (sn := sn) (sub := sub) (ab := ab) (col := col) (dd := dd) (k0 := k0) (k1 := k1) (k2 := k2) (k3 := k3) (k5 := k5)
    FB (mN := mN) (T.hasType FB.hasBase) (I.ok.hd rfl) rfl hni (ld_glob I hg hm ⟨rfl, ?_⟩ hd)
  refine Calls.evalArgs_plain (Calls.spliced_cons (Calls.Constant_str (k := zj) (pos := zp) (Calls.spliced_nil ⟨rfl, ?_, hC, hN, T, fun h' e hx => ?_⟩)))
  · exact Nat.le_trans (show 1 ≤ 1000 by decide) (Nat.le_of_lt (small1000 (Nat.le_refl _)))
  · exact xe_raise (I.tok _) hx h
end

/-- within an except suite -/
def Cx.held (X : Cx) (ea : Addr) (pn : List (Addr × Obj)) : Cx := { X with A := X.A.mark (some (.ref ea)), calm := false, xe := fun _ _ => False, pn := pn }
/-- within a try suite -/
def Cx.tried (X : Cx) (xe : Value → Shared → Prop) (pn : List (Addr × Obj)) : Cx := { X with xe := xe, pn := pn }
section
variable {X : Cx} {pins pn : List (Addr × Obj)} {σ : St} {H H' : Hp} {s s' : Shared} {ea C : Addr} {xe : Value → Shared → Prop}
theorem Inv.tried (I : Inv X pins σ H s) (hp : pn = X.pn ++ pins) : Inv (X.tried xe pn) [] σ H s :=
  ⟨⟨I.ok.mod, I.ok.kind, I.ok.glob, I.ok.blt, I.ok.above, I.ok.inj, I.ok.has, I.ok.cab, I.ok.hd, I.ok.frames, I.ok.stk, I.ok.exf, I.ok.bs, I.ok.bsz, I.ok.noex, I.ok.exfs, I.ok.funs, I.ok.frf⟩,
    I.os, I.bare, I.base, I.loc, I.cell, I.free, I.freeC, fun p hq => I.pin p (by subst hp; exact (List.mem_append.mp hq).elim (fun z => z) (fun z => nomatch z)), I.hok, I.len⟩
theorem Inv.untried {q : List (Addr × Obj)} (I : Inv (X.tried xe pn) q σ H s) (hp : pn = X.pn ++ pins) : Inv X pins σ H s :=
  ⟨⟨I.ok.mod, I.ok.kind, I.ok.glob, I.ok.blt, I.ok.above, I.ok.inj, I.ok.has, I.ok.cab, I.ok.hd, I.ok.frames, I.ok.stk, I.ok.exf, I.ok.bs, I.ok.bsz, I.ok.noex, I.ok.exfs, I.ok.funs, I.ok.frf⟩,
    I.os, I.bare, I.base, I.loc, I.cell, I.free, I.freeC, fun p hq => I.pin p (List.mem_append_left _ (by subst hp; exact hq)), I.hok, I.len⟩
theorem SP.untried {D : Ends} {f : Flow} {q : List (Addr × Obj)} (h : SP (X.tried xe pn) q D f s') (hp : pn = X.pn ++ pins) : SP X pins D f s' := by
  cases f with
  | next => obtain ⟨σ', H', I, d⟩ := h; exact ⟨σ', H', I.untried hp, d⟩
  | brk => obtain ⟨σ', H', I, d⟩ := h; exact ⟨σ', H', I.untried hp, d⟩
  | cont => obtain ⟨σ', H', I, d⟩ := h; exact ⟨σ', H', I.untried hp, d⟩
  | ret u => obtain ⟨v, σ', H', I, d⟩ := h; exact ⟨v, σ', H', I.untried hp, d⟩
theorem Inv.held (I : Inv X pins σ H s) (hp : pn = X.pn ++ pins) : Inv (X.held ea pn) [] σ H s :=
  ⟨⟨I.ok.mod, I.ok.kind, I.ok.glob, I.ok.blt, I.ok.above, I.ok.inj, I.ok.has, I.ok.cab, (fun z => nomatch z), I.ok.frames, I.ok.stk, I.ok.exf, I.ok.bs, I.ok.bsz, I.ok.noex, I.ok.exfs, I.ok.funs, I.ok.frf⟩,
    I.os, I.bare, I.base, I.loc, I.cell, I.free, I.freeC, fun p hq => I.pin p (by subst hp; exact (List.mem_append.mp hq).elim (fun z => z) (fun z => nomatch z)), I.hok, I.len⟩
theorem Inv.unheld {q : List (Addr × Obj)} (I : Inv (X.held ea pn) q σ H s) (ok : X.Ok) (hp : pn = X.pn ++ pins) : Inv X pins σ H s :=
  ⟨ok, I.os, I.bare, I.base, I.loc, I.cell, I.free, I.freeC, fun p hq => I.pin p (List.mem_append_left _ (by subst hp; exact hq)), I.hok, I.len⟩
/-- an exception's object: its class -/
def exO (ea C : Addr) : HO := .ext fun h => ∃ o, h.get? ea = some o ∧ o.cls = .ref C ∧ ∃ vs, o.data = .fields vs
/-- an object that stood untracked is tracked from now on -/
theorem Inv.track {o : HO} {a : Addr} (I : Inv X pins σ H s) (hn : H a = none) (h0 : ∀ ob, X.s₀.heap.get? a = some ob → X.H₀ a ≠ none ∨ a ∈ X.ex) (hL : a ≠ X.env.locals) (hc : ∀ x c, X.env.cells.lookup x = some c → c ≠ a) (hp : ∀ p ∈ X.pn ++ pins, p.1 ≠ a)
    (new : ObjOk X.prog X.w (upd H a o) s.heap a o) : Inv X pins σ (upd H a o) s := by
  have ne : ∀ b u, H b = some u → b ≠ a := fun b u e => ne_of_none e hn
  refine ⟨I.ok, I.os, I.bare, ⟨I.base.keep, I.base.slot, fun b ob e n hx => ?_, I.base.there, fun b xs q => ?_, fun b ob u q => ?_, fun b ps q => ?_⟩, I.loc, I.cell, ?_, fun x c e => ?_, fun p hq => ?_, fun b u e => ?_, I.len⟩
  · rw [upd_ne ?_]
    · exact I.base.free b ob e n hx
    · rintro rfl
      rcases h0 ob e with z | z
      · exact z n
      · exact hx z
  · have := I.base.tups b xs q
    rw [upd_ne (ne _ _ this)]; exact this
  · have := I.base.frzs b ob u q
    rw [upd_ne (ne _ _ this)]; exact this
  · obtain ⟨m, z⟩ := I.base.tbls b ps q
    exact ⟨m, by rw [upd_ne (ne _ _ z)]; exact z⟩
  · rw [upd_ne (Ne.symm hL)]; exact I.free
  · rw [upd_ne (hc x c e)]; exact I.freeC x c e
  · obtain ⟨e1, e2, e3⟩ := I.pin p hq
    exact ⟨e1, by rw [upd_ne (hp p hq)]; exact e2, e3⟩
  · by_cases hb : b = a
    · subst hb; rw [upd_same] at e; cases e; exact new
    · rw [upd_ne hb] at e
      exact (I.hok b u e).stay (fun c v _ q => q) (fun c q => by rw [upd_ne (ne _ _ q)]; exact q) fun c xs q => by rw [upd_ne (ne _ _ q)]; exact q
/-- a local name goes -/
theorem Inv.goes {i : Nat} {x : Str} {v : Option Value} {m : Str → Option Value} {h' : Heap} {t : Nat} (I : Inv X pins σ H s) (hN : X.N.Nodup) (hi : X.N[i]? = some x) (hm : s.heap.Ns X.env.locals m) (hn : h'.Ns X.env.locals fun y => if y = x then v else m y) (hs : Heap.SameBut X.env.locals s.heap h') :
    Inv X pins (σ.set i none) H { s with heap := h', toks := t } := by
  have hiσ : i < σ.length := by rw [I.len]; exact (List.getElem?_eq_some_iff.mp hi).1
  have off : ∀ b o, X.s₀.heap.get? b = some o → h'.get? b = s.heap.get? b := fun b o e => hs.2 b (Nat.ne_of_lt (Nat.lt_of_lt_of_le (Heap.lt_size e) I.ok.above))
  refine ⟨I.ok, I.os, I.bare, ⟨fun b o e n hb hx => (off b o e).trans (I.base.keep b o e n hb hx), fun b o e n hb hx => ?_, I.base.free, fun b o e hx => ?_, I.base.tups, I.base.frzs, I.base.tbls⟩, ⟨_, hn, fun j y v' e1 e2 e3 => ?_⟩, fun y c e => ?_, I.free, I.freeC, fun p hp => ?_, fun b u e => ?_, ?_⟩
  · obtain ⟨sl, e1⟩ := I.base.slot b o e n hb hx
    exact ⟨sl, (off b o e).trans e1⟩
  · obtain ⟨o', e1⟩ := I.base.there b o e hx
    exact ⟨o', (off b o e).trans e1⟩
  · by_cases hj : j = i
    · subst hj
      rw [List.getElem?_set_self hiσ] at e2
      cases e2
    · rw [List.getElem?_set_ne (Ne.symm hj)] at e2
      obtain ⟨m1, hm1, hl⟩ := I.loc
      obtain ⟨u', r', q⟩ := hl j y v' e1 e2 e3
      refine ⟨u', r', ?_⟩
      rcases q with ⟨k, e⟩ | ⟨k, c, e, z⟩
      · refine .inl ⟨k, ?_⟩
        have ny : y ≠ x := fun e => hj (nodup_ix hN e1 (e ▸ hi))
        have em : m = m1 := hm.eq_nsMap.trans hm1.eq_nsMap.symm
        simp [ny, em, e]
      · exact .inr ⟨k, c, e, z.sameBut hs (I.cne y c e)⟩
  · obtain ⟨w', z⟩ := I.cell y c e
    exact ⟨w', z.sameBut hs (I.cne y c e)⟩
  · obtain ⟨e, n, ne, nf, d⟩ := I.pin p hp
    exact ⟨(hs.2 p.1 ne).trans e, n, ne, nf, d⟩
  · refine (I.hok b u e).stay (fun c w' hc q => (hs.2 c ?_).trans q) (fun _ q => q) fun _ _ q => q
    rintro rfl
    rcases hc with hc | hc
    · rw [← hc, I.free] at e; cases e
    · rw [I.free] at hc; cases hc
  · simpa using I.len
end
end L2

namespace L2
open PySem PySem.Spec PyProof.Rows
def tTry (K : PySem.W.Frag) (C0 : Addr) (n i : Nat) (tb : XK → TS) (th : TS) : TS := fun D σ H =>
  tb (fun cls _ H' => ∃ C, cls = .ref C ∧ PySem.W.exmOne K (.ref C) (.ref C0) = some true ∧ ∀ ea σ', H' ea = none → σ'.length = n → σ'[i]? = some (some (.ref ea)) → th { nx := fun _ _ => False, rt := D.rt } σ' (upd H' ea (exO ea C))) D σ H
section
variable {X : Cx}
/-- try: .. except C as n: .. (the suite hands back; it reads no other local) -/
theorem ps_try {x n : Str} {i : Nat} {C0 : Addr} {body suite : List Stmt} {b₀ : Stmt} {np hpos pos : Pos} {tb : XK → TS} {th : TS} (hex : X.ex = []) (hst : X.stack = X.env :: X.outer) (hfr : X.env.frame = some X.env.locals)
    (hN : X.N.Nodup) (hi : X.N[i]? = some n) (hl : X.env.scope.names.lookup n = some .local) (hg : Gl X x) (hm : X.mg x = some (.ref C0))
    (hb : ∀ (xe : Value → Shared → Prop) (pn : List (Addr × Obj)) (E1 : XK), Passes (CX1 X.prog X.w) (X.tried xe pn) E1 → PSs (X.tried xe pn) body (tb E1))
    (hh : ∀ (ea : Addr) (pn : List (Addr × Obj)), PSs (X.held ea pn) (b₀ :: suite) th) (hd : (x == ("__debug__" : Str)) = false := by decide) :
    PS X (.Try body [.ExceptHandler (some (.Name x np)) (some n) (b₀ :: suite) hpos] [] [] pos) (tTry X.K C0 X.N.length i tb th) := by
  intro pins s σ H D I h
  refine wpAny_Try_except ?_
  refine wpAny_mono ((hb (fun e s₁ => wpAny (model X.prog X.w) X.A (noteFrame e X.env) (fun _ s₂ => wpAny (model X.prog X.w) X.A (setFlight e none) (fun _ s₃ =>
    wpAny (model X.prog X.w) X.A (handleBy e X.env [.ExceptHandler (some (.Name x np)) (some n) (b₀ :: suite) hpos]) (SP X pins D) X.xe s₃) X.xe s₂) X.xe s₁) (X.pn ++ pins) _ ?_) [] s σ H D (I.tried rfl) h) (fun f s1 q => ?_) fun _ _ z => z
  · intro pins' σ' H1 s1 e s' I1 hf
    obtain ⟨ea, C, a0, B, H', rfl, fl, fw, C', eC, hx, k⟩ := hf
    cases eC
    have hn : H' ea = none := by
      cases q : H' ea with
      | none => rfl
      | some u =>
        obtain ⟨o, z⟩ := fl.trk ea (by rw [q]; intro z; cases z)
        rw [fw.2.1] at z
        cases z
    have fw' : Heap.FlyingW B (X.env :: X.outer) ea (.ref C) a0 s'.heap := by
      have z : (X.tried (fun _ _ => True) []).stack = X.env :: X.outer := hst
      rw [← z]; exact fw
    have hfs : X.A.frames = some (X.env :: X.outer) := by rw [← hst]; exact I.ok.frames
    refine wpAny_looks_onW hfs hfr fw' fun h4 hd4 up4 => ?_
    refine wpAny_landsW hd4 fun h5 fl5 up5 => ?_
    have at5 : ∀ {h6 : Heap}, B.StaysIn h6 → s'.heap.UpToSlots h6 → Inv X pins σ' H' { s' with heap := h6 } := fun {h6} st up => by
      have m5 := fl.move (t := s'.toks) I1.stack I1.stkFree st up
      exact Inv.untried (Inv.call' (ch := []) I1 m5.os m5.un m5.hok m5.bare (fun _ z => nomatch z)) rfl
    have I5 := at5 fl5.1 (up4.trans up5)
    have Ih : Inv (X.held ea (X.pn ++ pins)) [] σ' H' _ := I5.held rfl
    obtain ⟨ob, hob, hoc⟩ := fl5.there
    refine wpAny_handleBy_cons (codeAny_handlers_test (ld_glob Ih hg hm ?_ hd)) (by intro q; cases q)
    have LT : PySem.W.Looks (model X.prog X.w) h5 (typeOf (.ref ea)) (.ref C) := by
      rw [← hoc]; exact (PySem.W.Looks.ld hob).andThen .now
    refine (PySem.W.exm_one Ih.kIn LT hx).here ?_
    refine codeAny_handlers_suite_as (lands_againW fl5 fun h6 fl6 up6 => ?_)
    have I6 := at5 fl6.1 ((up4.trans up5).trans up6)
    obtain ⟨oe, vs, T, oT, ts, hoe, ⟨hoec, _⟩, hoed, _⟩ := id fl6.2.2.2
    have nfr : ∀ b ∈ frs X.stack, b ≠ ea := fun b hb z => by
      subst z
      obtain ⟨_, o', e', nf⟩ := I6.stack.mem hb
      rw [hoe] at e'; cases e'
      exact nf _ hoed
    have nB : ∀ b o, B.get? b = some o → b ≠ ea := fun b o e z => by rw [z, fl6.2.1] at e; cases e
    have hL : ea ≠ X.env.locals := fun z => nfr X.env.locals (by rw [hst]; unfold frs; rw [List.filterMap_cons, hfr]; exact List.mem_cons_self) z.symm
    have It : Inv X pins σ' (upd H' ea (exO ea C)) { s' with heap := h6 } := by
      refine I6.track hn (fun ob' e => ?_) hL (fun y c e => ?_) (fun p hp => ?_) ⟨⟨oe, hoe, hoec, _, hoed⟩, ⟨oe, hoe⟩, fun h1 h2 ⟨o, e1, e2⟩ kk => ⟨o, kk o e1, e2⟩⟩
      · by_cases hb : ea ∈ X.fs
        · exact absurd rfl (nfr ea (by rw [hst]; unfold frs; rw [List.filterMap_cons, hfr]; exact List.mem_cons_of_mem _ hb))
        · obtain ⟨o1, e1⟩ := I1.base.there ea ob' e (show ea ∉ X.ex by rw [hex]; simp)
          obtain ⟨o2, e2⟩ := fl.there ea o1 e1 (I1.offStack e hb)
          exact absurd rfl (nB ea o2 e2)
      · intro z
        subst z
        obtain ⟨v, o', e', hd'⟩ := I6.cell y c e
        rw [hoe] at e'; cases e'
        rw [hoed] at hd'; cases hd'
      · obtain ⟨e1, e2, e3, e4, _⟩ := I1.pin p (List.mem_append_left _ hp)
        refine nB p.1 p.2 (fl.old p.1 p.2 e1 e2 fun z => ?_)
        rcases List.mem_cons.mp (I1.stkSub p.1 z) with q | q
        · exact e3 q
        · exact e4 q
    have Iht : Inv (X.held ea (X.pn ++ pins)) [] σ' (upd H' ea (exO ea C)) { s' with heap := h6 } := It.held rfl
    refine store_ok (X := X.held ea (X.pn ++ pins)) (v := .ref ea) (i := i) Iht hN hi (Or.inl hl) rfl (fun s7 I7 => ?_) (.inr hl)
    have hlen : (σ'.set i (some (V.ref ea))).length = X.N.length := by rw [List.length_set]; exact I6.len
    have hget : (σ'.set i (some (V.ref ea)))[i]? = some (some (.ref ea)) := List.getElem?_set_self (by rw [I6.len]; exact (List.getElem?_eq_some_iff.mp hi).1)
    refine wpAny_mono (hh ea _ [] s7 _ _ _ I7 (k ea _ hn hlen hget)) (fun f s8 q8 => ?_) fun _ _ z => z.elim
    cases f with
    | next => obtain ⟨_, _, _, z⟩ := q8; exact z.elim
    | brk => obtain ⟨_, _, _, z⟩ := q8; exact z.elim
    | cont => obtain ⟨_, _, _, z⟩ := q8; exact z.elim
    | ret u =>
      obtain ⟨v, σ8, H8, I8, r8, d8⟩ := q8
      have I8' : Inv X pins σ8 H8 s8 := I8.unheld I.ok rfl
      obtain ⟨m8, hm8, _⟩ := id I8'.loc
      refine wpAny_nameGoes_keeps hl hm8 (by rw [I.ok.kind]; rfl) fun h9 v9 hn9 hs9 => ?_
      exact ⟨v, _, H8, I8'.goes hN hi hm8 hn9 hs9, r8, d8⟩
  · have q' : SP X pins D f s1 := SP.untried q rfl
    cases f with
    | next => exact wpAny_execs_nil q'
    | brk => exact q'
    | cont => exact q'
    | ret u => exact q'
end
end L2

/-! ### arguments, one after another; isinstance, lists compared, reversed, {} -/
namespace L2
open PySem PySem.Spec PyProof.Rows
def notStar : Expr → Bool
  | .Starred .. => false
  | _ => true
theorem star_of {e : Expr} {es : List Expr} {env : Env} (h : notStar e = true) : starEach (e :: es) env = (false, eval e env) :: starEach es env := by
  cases e <;> first | rfl | cases h
theorem pa_c {X : Cx} {e : Expr} {es : List Expr} {te : TE} {t : TA} (ha : PE X e te) (hr : PA X es t) (hn : notStar e = true := by rfl) : PA X (e :: es) (tCons te t) := pa_cons ha hr (star_of hn)
/-- an own exception class, as the text's top made it -/
structure ExcCls (K : PySem.W.Frag) (C : Addr) : Prop where
  isC : (PySem.W.clsIn K C).isSome = true
  ga : PySem.W.findIn K (.ref C) "__getattribute__" = some (some (.builtin "BaseException.__getattribute__"))
  gt : PySem.W.findIn K (.ref C) "__getattr__" = some none
  cl : PySem.W.findIn K (.ref C) "__class__" = some (some (.builtin "object.__class__"))
  bo : PySem.W.mroIn K C (.type "object") = some true
  bx : PySem.W.mroIn K C (.type "BaseException") = some true
def ExcAt (ea C : Addr) (h : Heap) : Prop := ∃ o, h.get? ea = some o ∧ o.cls = .ref C ∧ ∃ vs, o.data = .fields vs

def kitD (t c : String) : Option Bool := if (Value.type t == Value.type c) = true then some true else if PySem.W.kitMeta c = true then (fastBuiltinMro t).map (·.contains (.type c)) else none
theorem kitT {K : PySem.W.Frag} {t c : String} {b : Bool} (h : kitD t c = some b) : PySem.W.kitOne K (.type t) (.type c) = some b := h

def clsV : V → Value
  | .ty n => .type n
  | .ref a => .ref a
  | _ => .none
def isClsV : V → Bool
  | .ty _ => true
  | .ref _ => true
  | _ => false
theorem clsV_of {x : V} {u : Value} (r : RelV x u) (h : isClsV x = true) : u = clsV x := by
  cases x <;> first | exact r | cases h

/-- lists compared: ints; or the same things -/
def okV : V → Bool
  | .non => true
  | .bl _ => true
  | .int _ => true
  | .str _ => true
  | .ref _ => true
  | _ => false
theorem eqAt_okV {A : Around} {s : Shared} {v : V} {u u' : Value} (r : RelV v u) (r' : RelV v u') (h : okV v = true) : SeqAt.EqAt A s u u' true := by
  cases v with
  | non => cases r; cases r'; exact SeqAt.EqAt.same _
  | bl b => cases r; cases r'; exact SeqAt.EqAt.same _
  | ref a => cases r; cases r'; exact SeqAt.EqAt.same _
  | int i =>
    have := eqAt_V (A := A) (s := s) (y := .int i) (x := .int i) r r' rfl rfl
    simpa [eqV] using this
  | str x =>
    have := eqAt_V (A := A) (s := s) (y := .str x) (x := .str x) r r' rfl rfl
    simpa [eqV] using this
  | byt b => cases h
  | flt b => cases h
  | ty n => cases h
section
variable {X : Cx}
def rEqI (K : PySem.W.Frag) : R2 := fun x y H Q => ∃ (a b : Addr) (ns ms : List Int), x = .ref a ∧ y = .ref b ∧ SqL K H a (ns.map V.int) ∧ SqL K H b (ms.map V.int) ∧ Q (.bl (decide (ns = ms))) H
def rNeI (K : PySem.W.Frag) : R2 := fun x y H Q => ∃ (a b : Addr) (ns ms : List Int), x = .ref a ∧ y = .ref b ∧ SqL K H a (ns.map V.int) ∧ SqL K H b (ms.map V.int) ∧ Q (.bl (!decide (ns = ms))) H
def rEqS (K : PySem.W.Frag) : R2 := fun x y H Q => ∃ a b xs, x = .ref a ∧ y = .ref b ∧ SqL K H a xs ∧ SqL K H b xs ∧ xs.all okV = true ∧ Q (.bl true) H
theorem op_eqI (hu : X.A.units + 64 < cLine) : OpR X (compareOp .Eq) (rEqI X.K) := by
  intro pins s σ H x y v u Q I rx ry h
  obtain ⟨a, b, ns, ms, rfl, rfl, h1, h2, q⟩ := h
  cases rx; cases ry
  obtain ⟨i1, r1, p1, _⟩ := I.list h1
  obtain ⟨i2, r2, p2, _⟩ := I.list h2
  exact PySem.W.eq_intsK p1.isList (intsAre_of r1) p2.isList (intsAre_of r2) hu ⟨.bl _, H, I, rfl, q⟩
theorem op_neI (hu : X.A.units + 64 < cLine) : OpR X (compareOp .NotEq) (rNeI X.K) := by
  intro pins s σ H x y v u Q I rx ry h
  obtain ⟨a, b, ns, ms, rfl, rfl, h1, h2, q⟩ := h
  cases rx; cases ry
  obtain ⟨i1, r1, p1, _⟩ := I.list h1
  obtain ⟨i2, r2, p2, _⟩ := I.list h2
  exact PySem.W.ne_intsK p1.isList (intsAre_of r1) p2.isList (intsAre_of r2) hu ⟨.bl _, H, I, rfl, q⟩
theorem op_eqS (hu : X.A.units < cLine) : OpR X (compareOp .Eq) (rEqS X.K) := by
  intro pins s σ H x y v u Q I rx ry h
  obtain ⟨a, b, xs, rfl, rfl, h1, h2, hk, q⟩ := h
  cases rx; cases ry
  obtain ⟨i1, r1, p1, _⟩ := I.list h1
  obtain ⟨i2, r2, p2, _⟩ := I.list h2
  have l1 := r1.length
  have l2 := r2.length
  refine SeqAt.eq_listAt (e := fun _ => true) p1.isList p2.isList (by simp; omega) hu (fun j g1 g2 => ?_) ?_
  · have hj : j < xs.length := by simp at g1; omega
    have hx : xs[j]? = some xs[j] := List.getElem?_eq_getElem hj
    obtain ⟨u1, e1, q1⟩ := r1.get hx
    obtain ⟨u2, e2, q2⟩ := r2.get hx
    have f1 : i1.toArray[j] = u1 := by
      have := List.getElem?_eq_some_iff.mp e1
      obtain ⟨_, z⟩ := this
      simpa using z
    have f2 : i2.toArray[j] = u2 := by
      have := List.getElem?_eq_some_iff.mp e2
      obtain ⟨_, z⟩ := this
      simpa using z
    rw [f1, f2]
    exact eqAt_okV q1 q2 (List.all_eq_true.mp hk _ (List.getElem_mem hj))
  · refine ⟨.bl true, H, I, ?_, q⟩
    have : ((List.range i1.toArray.size).all fun _ => true) = true := by simp
    rw [this]
    rfl
end

/-! reversed(xs) of a list that stays as it is -/
def Itv (K : PySem.W.Frag) (a : Addr) (n : Nat) : It :=
  ⟨fun i H => i < n ∧ ∃ xs x, SqL K H a xs ∧ xs[n - 1 - i]? = some x, fun i H x H' => H' = H ∧ ∀ xs, SqL K H a xs → xs[n - 1 - i]? = some x, fun i _ => i = n⟩
theorem turn_rev {P : Program} {w : World} {K : PySem.W.Frag} {tg : Expr} (a it : Addr) (n : Nat) : Turn P w K tg (Itv K a n) [it] it (fun i h => h.IsRevIter it a ((n : Int) - 1 - (i : Int))) where
  mem := by simp
  obj := fun i h st b hb => by
    have e : b = it := by simpa using hb
    subst e
    obtain ⟨o, e, c, d⟩ := st
    exact ⟨o, e, fun v z => by rw [d] at z; cases z⟩
  keep := fun i h h' st k => st.at fun o e => k it (by simp) o e
  item := by
    intro X hP hw hK hc i pins s σ H E I hf st hg
    subst hP hw hK
    obtain ⟨hi, xs, x, hq, hx⟩ := hg
    obtain ⟨its, rv, p, hz⟩ := I.list hq
    obtain ⟨u, hu, ru⟩ := rv.get hx
    obtain ⟨f0, f1, f2, f3, f4, f5⟩ := hf it (by simp)
    have e1 : (n : Int) - 1 - (i : Int) = ((n - 1 - i : Nat) : Int) := by omega
    have st1 : s.heap.IsRevIter it a ((n - 1 - i : Nat) : Int) := by rw [← e1]; exact st
    refine wpAny_pyNext_rev_item st1 p.isList (x := u) (by simpa using hu) fun h' st' sb => ?_
    have I1 : Inv X pins σ H { s with heap := h' } := I.turned (t' := s.toks) (fun b o hb e => (sb.2 b hb).trans e) f0 f1 f3 f4 f5
    obtain ⟨o, e, c, d⟩ := id st'
    have e2 : ((n - 1 - i : Nat) : Int) - 1 = (n : Int) - 1 - ((i + 1 : Nat) : Int) := by omega
    exact ⟨u, rfl, go_of (s := { s with heap := h' }) e c d (by decide) ⟨x, H, I1, ru, ⟨rfl, fun ys hy => by rw [I.list_inj hy hq]; exact hx⟩, by rw [← e2]; exact st', fun b hb => (hf b hb).1⟩⟩
  done := by
    intro X hP hw hK hc i pins s σ H E I hf st hg
    subst hP hw hK
    obtain ⟨f0, f1, f2, f3, f4, f5⟩ := hf it (by simp)
    have hg' : i = n := hg
    have e1 : (n : Int) - 1 - (i : Int) = -1 := by omega
    rw [e1] at st
    exact wpAny_pyNext_rev_end (I.ok.hd hc) st fun h' eb => ⟨rfl, I.turned (t' := s.toks) (fun b o hb e => eb b o hb e) f0 f1 f3 f4 f5⟩
  self := fun _ _ _ _ _ st h => wpAny_pyIter_revIter st h
def iRev (K : PySem.W.Frag) (ta : TA) : TI := fun σ H R => ta σ H fun vs H1 => ∃ a xs, vs = [.ref a] ∧ SqL K H1 a xs ∧ R (Itv K a xs.length) H1
section
variable {X : Cx} {tg : Expr}
theorem pi_rev {a : Expr} {ta : TA} {p pos : Pos} (hg : Gl X "reversed") (hm : X.mg "reversed" = none) (ha : PA X [a] ta) (hs : starEach [a] X.env = [(false, eval a X.env)] := by rfl) : PI X tg (.Call (.Name "reversed" p) [a] [] pos) (iRev X.K ta) := by
  intro pins s σ H R I h
  refine Call_ (ld_blt I hg hm PyProof.Rows.Boot.«reversed» (PyProof.Rows.callWith_type1 (thn (ha pos pins s σ H _ I h) fun us s1 ⟨vs, H1, I1, r1, q1⟩ => ?_) hs rfl))
  obtain ⟨a, xs, e, hq, q⟩ := q1
  subst e
  obtain ⟨u, rfl, ru⟩ := vals1 r1
  cases ru
  obtain ⟨its, rv, p, hz⟩ := I1.list hq
  have hl := rv.length
  refine call_reversed_list p.isList ?_
  have e1 : ((its.toArray.size : Nat) : Int) - 1 = (xs.length : Int) - 1 - ((0 : Nat) : Int) := by simp; omega
  have hit : (s1.heap.push (revObj a (((its.toArray.size : Nat) : Int) - 1))).IsRevIter s1.heap.objs.size a ((xs.length : Int) - 1 - ((0 : Nat) : Int)) := ⟨_, Heap.get?_push_size _ rfl, rfl, by rw [← e1]; rfl⟩
  refine wpAny_pyIter_revIter hit ?_
  refine ⟨s1.heap.objs.size, [s1.heap.objs.size], _, _, H1, rfl, I1.kept (t' := s1.toks) fun b o e => Heap.get?_push_of_some _ e, turn_rev a _ xs.length, hit, fun b hb => ?_, q⟩
  have e : b = s1.heap.objs.size := by simpa using hb
  subst e
  exact I1.fpOk (Nat.le_refl _) (I1.hok.fresh (Nat.le_refl _))
end
theorem for_rev {K : PySem.W.Frag} {a : Addr} {xs : List V} {g : TG} {tb : TS} {D : Ends} {σ : St} {H : Hp} (Pv : Nat → St → Hp → Prop) (h0 : Pv 0 σ H) (hl : ∀ i σ H, i ≤ xs.length → Pv i σ H → SqL K H a xs)
    (hs : ∀ i x σ H, xs.reverse[i]? = some x → Pv i σ H → g x σ H fun σ2 H2 => tb { D with nx := Pv (i + 1), ct := Pv (i + 1), bk := D.nx } σ2 H2) (hd : ∀ σ H, Pv xs.length σ H → D.nx σ H) :
    ∃ W : Nat → Nat → St → Hp → Prop, (∃ m, W 0 m σ H) ∧ ∀ i m σ H, W i m σ H → ((Itv K a xs.length).stop i H ∧ D.nx σ H) ∨ ((Itv K a xs.length).go i H ∧ ∃ N : St → Hp → Prop, (∀ σ' H', N σ' H' → ∃ m', m' < m ∧ W (i + 1) m' σ' H') ∧ ∀ x H', (Itv K a xs.length).yld i H x H' → g x σ H' fun σ2 H2 => tb { D with nx := N, ct := N, bk := D.nx } σ2 H2) := by
  refine ⟨fun i m σ H => i ≤ xs.length ∧ m = xs.length - i ∧ Pv i σ H, ⟨_, Nat.zero_le _, rfl, h0⟩, fun i m σ H ⟨hi, hm, hp⟩ => ?_⟩
  by_cases he : i = xs.length
  · subst he
    exact .inl ⟨rfl, hd σ H hp⟩
  · have hlt : i < xs.length := by omega
    have hq := hl i σ H hi hp
    have hx : xs[xs.length - 1 - i]? = some xs[xs.length - 1 - i] := List.getElem?_eq_getElem (by omega)
    refine .inr ⟨⟨hlt, xs, _, hq, hx⟩, Pv (i + 1), fun σ' H' h' => ⟨xs.length - (i + 1), by omega, by omega, rfl, h'⟩, fun x H' ⟨e1, e2⟩ => ?_⟩
    subst e1
    refine hs i x σ H' ?_ hp
    rw [List.getElem?_reverse hlt]
    exact e2 xs hq
end L2

namespace L2
open PySem PySem.Spec PyProof.Rows
/-- the class of a value, exceptions too -/
def TyX (K : PySem.W.Frag) (H : Hp) (x : V) (t : Value) : Prop := TyOf K H x t ∨ ∃ ea C, x = .ref ea ∧ t = .ref C ∧ H ea = some (exO ea C) ∧ ExcCls K C
def rIsi (K : PySem.W.Frag) : List V → Hp → VK → Prop := fun xs H Q => match xs with
  | [x, c] => isClsV c = true ∧ ∃ t b, TyX K H x t ∧ PySem.W.kitOne K t (clsV c) = some b ∧ Q (.bl b) H
  | _ => False
section
variable {K : PySem.W.Frag}
/-- the class of an exception, asked as its attribute -/
theorem exc_get {prog : Program} {w : World} {A : Around} {R : Result → Shared → Prop} {s : Shared} {ea C : Addr} {z : Value} (T : ExcCls K C) (X : K.In s.heap) (L0 : PySem.W.Looks (model prog w) s.heap (typeOf (.ref ea)) (.ref C)) (hR : R (.ok (.ret (.ref C))) s) :
    codeAny (model prog w) A (.call (.builtin "getset_descriptor.__get__") ⟨[.builtin "object.__class__", .ref ea, z], []⟩) R s := by
  have L4 := PySem.W.looks_mroIn (M := model prog w) X T.bo
  obtain ⟨hp, gs, dr, tk, os⟩ := s
  refine codeAny_call_builtin PySem.W.KF.slot_gs.plain PySem.W.KF.entry_gs
    (PySem.W.KF.slot_gs.check _ _ _ _ _ _ _ _ PySem.W.KF.type_class (PySem.W.KF.args_gs _ _ _) ?_)
  unfold Builtin.«getset_descriptor.__get__» Builtin.Getset_descriptor.descrGet; rw [PySem.W.dga_obj]
  refine wpAny_bind (wpAny_pure ?_); unfold Builtin.Getset_descriptor.descrGetter Builtin.Getset_descriptor.descrCheckInstance; unfold Builtin.Getset_descriptor.descrNameAndClass isInstance
  simp only [PySem.W.KF.owner_class]
  repeat (first | (with_reducible refine L0.at ?_) | (with_reducible refine L4.at ?_) | lk)
  refine ⟨Code.quiet_builtin _ (by decide +kernel),
    codeAny_builtin PySem.W.KF.entry_class ?_⟩
  unfold Builtin.«object.__class__»; unfold shownTypeOf
  repeat (first | (with_reducible refine L0.at ?_) | lk)
  exact hR
theorem exc_ga {prog : Program} {w : World} {A : Around} {E : Value → Shared → Prop} {Q : Option Value → Shared → Prop} {s : Shared} {ea C : Addr} (T : ExcCls K C) (X : K.In s.heap) (p : ExcAt ea C s.heap) (h : Q (some (.ref C)) { s with toks := s.toks + 1 }) :
    wpAny (model prog w) A (getAttr? (.ref ea) "__class__") Q E s := by
  obtain ⟨o, ho, hc, vs, hd⟩ := p
  obtain ⟨hh, g, d, t, os⟩ := s
  have L0 : PySem.W.Looks (model prog w) hh (typeOf (.ref ea)) (.ref C) := by rw [← hc]; exact (PySem.W.Looks.ld ho).andThen .now
  have L1 := PySem.W.looks_findIn (M := model prog w) X T.ga
  have L2 := PySem.W.looks_findIn (M := model prog w) X T.gt
  have L3 := PySem.W.looks_findIn (M := model prog w) X T.cl
  have L5 := PySem.W.looks_mroIn (M := model prog w) X T.bx
  have f3 := PySem.F.excAttr_ValueError.ga.bind (.ref ea)
  have f5 := PySem.F.typeOf_object_class
  have f6 := PySem.F.slot_gs_get.lookup
  have f7 := PySem.F.slot_gs_set.lookup
  have hx2 : (Value.builtin "BaseException.__getattribute__" == Value.builtin "object.__getattribute__") = false := by decide +kernel
  have hx1 : (onTheHeap (Value.ref C) && Value.builtin "BaseException.__getattribute__" == Value.builtin "object.__getattribute__") = false := by rw [hx2]; rfl
  have hT5 : (⟨hh, g, d, t + 1, os⟩ : Shared).TypeIs (.builtin "object.__class__") "getset_descriptor" := PySem.F.typeOf_object_class
  unfold getAttr? getAttrBy? getAttrBy
  refine wpAny_bind (wpAny_mkText (wpAny_bind (wpAny_attempt (wpAny_holding (wpAny_bind (L0.at (wpAny_bind (L1.at ?_))))))))
  dsimp only
  rw [if_neg (by rw [hx1]; exact Bool.false_ne_true)]
  unfold getAttrByItsOwn hookBefore callGetattribute boundAndCalled
  repeat (first | (with_reducible refine L2.at ?_) | (with_reducible refine L0.at ?_) | wp_step)
  refine codeAny_call_builtin PySem.F.excAttr_ValueError.ga.plain PySem.F.entry_bexc_ga ?_
  have hk : builtinKind "BaseException.__getattribute__" = some .slot := by decide +kernel
  have hsp : splitId "BaseException.__getattribute__" = some ("BaseException", "__getattribute__") := by decide +kernel
  have hag := PySem.F.args_bexc_ga (.ref ea) (.str (Str.ofString "__class__") t)
  simp only [checkBuiltinCall, hk, hsp, List.cons_append, List.nil_append]
  unfold isInstance
  repeat (any_goals (first | assumption | (with_reducible refine L0.at ?_) | (with_reducible refine L5.at ?_) | (with_reducible refine L3.at ?_) | wp_step))
  refine exc_get T X L0 ?_
  repeat (any_goals (first | assumption | wp_step))
theorem kitx_exc {ea C : Addr} (T : ExcCls K C) : PySem.W.KitX K (.ref ea) (.ref C) (ExcAt ea C) where
  ty := fun M h X p => by
    obtain ⟨o, e, c, _⟩ := p
    rw [← c]; exact (PySem.W.Looks.ld e).andThen .now
  it := fun M h X _ => by
    obtain ⟨cd, hc⟩ := Option.isSome_iff_exists.mp T.isC
    unfold PySem.W.clsIn at hc
    split at hc
    · rename_i ho
      intro A' Q' E' s' k q
      unfold isType loadHead
      exact wpAny_bind (wpAny_loadPart (k _ _ (X _ _ ho)) (wpAny_pure q))
    · cases hc
  ne := fun h tp dd its n sl X htp => by
    obtain ⟨cd, hc⟩ := Option.isSome_iff_exists.mp T.isC
    refine Bool.eq_false_iff.mpr fun q => ?_
    have e : C = tp := Value.ref.inj (beq_iff_eq.mp q)
    subst e
    unfold PySem.W.clsIn at hc
    split at hc
    · rename_i ho
      have z := (X _ _ ho).symm.trans htp
      cases z
    · cases hc
  ca := fun X p k => exc_ga T X p k
end
section
variable {X : Cx}
theorem call_isi : CallR X (.builtin "isinstance") (rIsi X.K) := by
  intro pins s σ H xs us Q I r h
  unfold rIsi at h
  split at h
  · rename_i x c
    obtain ⟨hc, t, b, ty, e, q⟩ := h
    obtain ⟨u, u', rfl, rx, rc⟩ := vals2 r
    rw [clsV_of rc hc]
    have fin : ∀ tk, EP X pins σ Q (.bool b) { s with toks := tk } := fun tk => ⟨.bl b, H, I.tok tk, rfl, q⟩
    rcases ty with ty | ⟨ea, C, rfl, rfl, hx, T⟩
    · exact isinst_ok I rx ty e fin
    · cases rx
      obtain ⟨⟨o, e1, e2, e3⟩, _⟩ := (show ObjOk X.prog X.w H s.heap ea (exO ea C) from I.hok ea _ hx)
      exact PySem.W.kia_one (kitx_exc T) I.kIn ⟨o, e1, e2, e3⟩ e (fun z => nomatch z) fin
  · exact h.elim
/-- isinstance(a, c), c a built-in class -/
theorem pe_isiT {K : PySem.W.Frag} {a : Expr} {ta : TE} {c : String} {x : Str} {p p2 pos : Pos} (hm : X.mg "isinstance" = none) (hc : X.mg x = none) (hv : bootBuiltins x = some (.type c)) (ha : PE X a ta) (hg : Gl X "isinstance" := by rfl) (hgc : Gl X x := by rfl) (hn : x ≠ "__name__" := by decide) (hd : (x == ("__debug__" : Str)) = false := by decide)
    (hs : starEach [a, .Name x p2] X.env = (false, eval a X.env) :: starEach [.Name x p2] X.env := by rfl) (hK : X.K = K := by rfl) :
    PE X (.Call (.Name "isinstance" p) [a, .Name x p2] [] pos) (tCB (rIsi K) (tCons ta (tCons (tC (.ty c)) tNil))) := by
  subst hK
  exact pe_callB (p := p) (pos := pos) call_isi hg hm PyProof.Rows.Boot.«isinstance» (pa_cons ha (pa_cons (pe_bltn (pos := p2) (v := .ty c) hgc hc hv rfl hn hd) pa_nil) hs) (he := hs)
/-- isinstance(a, C), C a class of the text -/
theorem pe_isiC {K : PySem.W.Frag} {a : Expr} {ta : TE} {C : Addr} {x : Str} {p p2 pos : Pos} (hm : X.mg "isinstance" = none) (hc : X.mg x = some (.ref C)) (ha : PE X a ta) (hg : Gl X "isinstance" := by rfl) (hgc : Gl X x := by rfl) (hd : (x == ("__debug__" : Str)) = false := by decide)
    (hs : starEach [a, .Name x p2] X.env = (false, eval a X.env) :: starEach [.Name x p2] X.env := by rfl) (hK : X.K = K := by rfl) :
    PE X (.Call (.Name "isinstance" p) [a, .Name x p2] [] pos) (tCB (rIsi K) (tCons ta (tCons (tC (.ref C)) tNil))) := by
  subst hK
  exact pe_callB (p := p) (pos := pos) call_isi hg hm PyProof.Rows.Boot.«isinstance» (pa_cons ha (pa_cons (pe_glob (pos := p2) (v := .ref C) hgc hc rfl hd) pa_nil) hs) (he := hs)
end
end L2

namespace L2
open PySem PySem.Spec PyProof.Rows
theorem Inv.big {X : Cx} {pins : List (Addr × Obj)} {σ : St} {H : Hp} {s : Shared} (I : Inv X pins σ H s) : sysModules < s.heap.objs.size := by
  have h : mainGlobals < s.heap.objs.size := (I.mod.glob.keeps I.bk).lt
  exact Nat.lt_trans (by decide) h
theorem dk_empty {P : Program} {w : World} {H : Hp} (h : Heap) (hb : sysModules < h.objs.size) : ObjOk P w H (h.push { cls := .type "dict", data := .dict #[] }) h.objs.size (.dK []) :=
  ⟨Nat.zero_le _, beq_eq_false_iff_ne.mpr (Ne.symm (Nat.ne_of_lt hb)), [], .nil, Heap.DictOf.new h⟩
def tDNewK : TE := fun _ H Q => ∀ p, H p = none → Q (.ref p) (upd H p (.dK []))
theorem pe_dnewK {X : Cx} {pos : Pos} : PE X (.Dict [] [] pos) tDNewK := fun pins s σ H Q I h =>
  wpAny_Dict_empty ⟨.ref s.heap.objs.size, _, I.laid (a := s.heap.objs.size) (o := .dK []) (t' := s.toks) (fun _ _ q => Heap.get?_push_of_some _ q) (Nat.le_refl _) (dk_empty s.heap I.big), rfl, h _ (I.hok.fresh (Nat.le_refl _))⟩
end L2
/-! THE RULES AGAIN, over judgements that do not open by themselves (a term of rules is then built in time that grows with its size alone) -/
namespace L2
open PySem PySem.Spec PyProof.Rows
@[irreducible] def QE (X : Cx) (e : Expr) (t : TE) : Prop := PE X e t
@[irreducible] def QT (X : Cx) (e : Expr) (t : TT) : Prop := PT X e t
@[irreducible] def QW (X : Cx) (e : Expr) (t : TT) : Prop := PW X e t
@[irreducible] def QA (X : Cx) (es : List Expr) (t : TA) : Prop := PA X es t
@[irreducible] def QS (X : Cx) (st : Stmt) (t : TS) : Prop := PS X st t
@[irreducible] def QSs (X : Cx) (st : List Stmt) (t : TS) : Prop := PSs X st t
@[irreducible] def QO (X : Cx) (e : Option Expr) (t : TO) : Prop := PO X e t
@[irreducible] def QG (X : Cx) (e : Expr) (t : TG) : Prop := PG X e t
@[irreducible] def QI (X : Cx) (tg iter : Expr) (t : TI) : Prop := PI X tg iter t
@[irreducible] def QOp (X : Cx) (f : Value → Value → Sem Value) (r : R2) : Prop := OpR X f r
@[irreducible] def QUn (X : Cx) (f : Value → Sem Value) (r : V → Hp → VK → Prop) : Prop := UnR X f r
@[irreducible] def QCall (X : Cx) (f : Value) (r : List V → Hp → VK → Prop) : Prop := CallR X f r
@[irreducible] def QIx (X : Cx) (r : R2) : Prop := IxR X r
@[irreducible] def QSl (X : Cx) (r : V → Option Int → Option Int → Hp → VK → Prop) : Prop := SlR X r
@[irreducible] def QMt (X : Cx) (id : String) (r : V → List V → Hp → VK → Prop) : Prop := MtR X id r
@[irreducible] def QPass (X : Cx) (E : XK) : Prop := Passes (CX1 X.prog X.w) X E
@[irreducible] def PlainQ (b : Expr) : Prop := PlainIx b
section
variable {X : Cx} {e a b c : Expr} {es rest : List Expr} {ta tb tc te : TE} {t : TA} {tt tu : TT} {pos p p2 : Pos} {st : Stmt} {sts : List Stmt} {ts us : TS}
theorem QE.of (h : PE X e te) : QE X e te := by unfold QE; exact h
theorem QE.to (h : QE X e te) : PE X e te := by unfold QE at h; exact h
theorem QT.of (h : PT X e tt) : QT X e tt := by unfold QT; exact h
theorem QT.to (h : QT X e tt) : PT X e tt := by unfold QT at h; exact h
theorem QW.of (h : PW X e tt) : QW X e tt := by unfold QW; exact h
theorem QW.to (h : QW X e tt) : PW X e tt := by unfold QW at h; exact h
theorem QA.of (h : PA X es t) : QA X es t := by unfold QA; exact h
theorem QA.to (h : QA X es t) : PA X es t := by unfold QA at h; exact h
theorem QS.of (h : PS X st ts) : QS X st ts := by unfold QS; exact h
theorem QS.to (h : QS X st ts) : PS X st ts := by unfold QS at h; exact h
theorem QSs.of (h : PSs X sts ts) : QSs X sts ts := by unfold QSs; exact h
theorem QSs.to (h : QSs X sts ts) : PSs X sts ts := by unfold QSs at h; exact h
theorem QO.of {e : Option Expr} {t : TO} (h : PO X e t) : QO X e t := by unfold QO; exact h
theorem QO.to {e : Option Expr} {t : TO} (h : QO X e t) : PO X e t := by unfold QO at h; exact h
theorem QG.of {t : TG} (h : PG X e t) : QG X e t := by unfold QG; exact h
theorem QG.to {t : TG} (h : QG X e t) : PG X e t := by unfold QG at h; exact h
theorem QI.of {t : TI} (h : PI X a b t) : QI X a b t := by unfold QI; exact h
theorem QI.to {t : TI} (h : QI X a b t) : PI X a b t := by unfold QI at h; exact h
theorem QOp.of {f : Value → Value → Sem Value} {r : R2} (h : OpR X f r) : QOp X f r := by unfold QOp; exact h
theorem QOp.to {f : Value → Value → Sem Value} {r : R2} (h : QOp X f r) : OpR X f r := by unfold QOp at h; exact h
theorem QUn.of {f : Value → Sem Value} {r : V → Hp → VK → Prop} (h : UnR X f r) : QUn X f r := by unfold QUn; exact h
theorem QUn.to {f : Value → Sem Value} {r : V → Hp → VK → Prop} (h : QUn X f r) : UnR X f r := by unfold QUn at h; exact h
theorem QCall.of {f : Value} {r : List V → Hp → VK → Prop} (h : CallR X f r) : QCall X f r := by unfold QCall; exact h
theorem QCall.to {f : Value} {r : List V → Hp → VK → Prop} (h : QCall X f r) : CallR X f r := by unfold QCall at h; exact h
theorem QIx.of {r : R2} (h : IxR X r) : QIx X r := by unfold QIx; exact h
theorem QIx.to {r : R2} (h : QIx X r) : IxR X r := by unfold QIx at h; exact h
theorem QSl.of {r : V → Option Int → Option Int → Hp → VK → Prop} (h : SlR X r) : QSl X r := by unfold QSl; exact h
theorem QSl.to {r : V → Option Int → Option Int → Hp → VK → Prop} (h : QSl X r) : SlR X r := by unfold QSl at h; exact h
theorem QMt.of {id : String} {r : V → List V → Hp → VK → Prop} (h : MtR X id r) : QMt X id r := by unfold QMt; exact h
theorem QMt.to {id : String} {r : V → List V → Hp → VK → Prop} (h : QMt X id r) : MtR X id r := by unfold QMt at h; exact h
theorem QPass.of {E : XK} (h : Passes (CX1 X.prog X.w) X E) : QPass X E := by unfold QPass; exact h
theorem QPass.to {E : XK} (h : QPass X E) : Passes (CX1 X.prog X.w) X E := by unfold QPass at h; exact h
theorem PlainQ.to (h : PlainQ b) : PlainIx b := by unfold PlainQ at h; exact h
def plainIxB : Expr → Bool
  | .Slice .. => false
  | .Tuple .. => false
  | _ => true
theorem PlainQ.of (h : PlainIx b) : PlainQ b := by unfold PlainQ; exact h

/-! expressions -/
theorem qv (i : Nat) {x : Str} (hN : X.N[i]? = some x := by rfl) (hv : Vis X.env.scope x := by first | exact Or.inl rfl | exact Or.inr (Or.inl rfl) | exact Or.inr (Or.inr rfl)) (hd : (x == ("__debug__" : Str)) = false := by decide) (hcd : (x == ("__classdict__" : Str)) = false := by decide) : QE X (.Name x pos) (tVar i) := .of (pe_var hN hv hd hcd)
theorem qe_int {i : Int} {j} : QE X (.Constant (.int i) j pos) (tC (.int i)) := .of pe_int
theorem qe_bl {b : Bool} {j} : QE X (.Constant (.bool b) j pos) (tC (.bl b)) := .of pe_bl
theorem qe_non {j} : QE X (.Constant .none j pos) (tC .non) := .of pe_non
theorem qe_str {x : Str} {j} : QE X (.Constant (.str x) j pos) (tC (.str x)) := .of pe_str
theorem qe_op {op : Operator} {r : R2} (ho : QOp X (binaryOp op) r) (ha : QE X a ta) (hb : QE X b tb) : QE X (.BinOp a op b pos) (tOp r ta tb) := .of (pe_op ho.to ha.to hb.to)
theorem qe_un {op : UnaryOp} {r : V → Hp → VK → Prop} (ho : QUn X (unaryOp op) r) (ha : QE X a ta) : QE X (.UnaryOp op a pos) (tUn r ta) := .of (pe_un ho.to ha.to)
theorem qe_not (ha : QE X a ta) : QE X (.UnaryOp .Not a pos) (tNotV ta) := .of (pe_not ha.to)
theorem qe_one {op} (h : QE X a ta) : QE X (.BoolOp op [a] pos) ta := .of (pe_one h.to)
theorem qe_and (ha : QE X a ta) (hb : QE X (.BoolOp .And (b :: rest) pos) tb) : QE X (.BoolOp .And (a :: b :: rest) pos) (tAndV ta tb) := .of (pe_and ha.to hb.to)
theorem qe_or (ha : QE X a ta) (hb : QE X (.BoolOp .Or (b :: rest) pos) tb) : QE X (.BoolOp .Or (a :: b :: rest) pos) (tOrV ta tb) := .of (pe_or ha.to hb.to)
theorem qe_cmp {op : CmpOp} {r : R2} (ho : QOp X (compareOp op) r) (ha : QE X a ta) (hb : QE X b tb) (h1 : op ≠ .In := by decide) (h2 : op ≠ .NotIn := by decide) : QE X (.Compare a [op] [b] pos) (tOp r ta tb) := .of (pe_cmpR ho.to ha.to hb.to (nomark b h1 h2))
theorem qt_cmp {op : CmpOp} {r : R2} (ho : QOp X (compareOp op) r) (ha : QE X a ta) (hb : QE X b tb) (h1 : op ≠ .In := by decide) (h2 : op ≠ .NotIn := by decide) : QT X (.Compare a [op] [b] pos) (tTest (tOp r ta tb)) := .of (pt_cmpR ho.to ha.to hb.to (nomark b h1 h2))
theorem qe_chain {op op' : CmpOp} {r r' : R2} (ho : QOp X (compareOp op) r) (ho' : QOp X (compareOp op') r') (ha : QE X a ta) (hb : QE X b tb) (hc : QE X c tc) (hm : lastMarks [op, op'] [b, c] = false := by with_unfolding_all rfl) : QE X (.Compare a [op, op'] [b, c] pos) (tChain r r' ta tb tc) := .of (pe_chain ho.to ho'.to ha.to hb.to hc.to hm)
theorem qt_chain {op op' : CmpOp} {r r' : R2} (ho : QOp X (compareOp op) r) (ho' : QOp X (compareOp op') r') (ha : QE X a ta) (hb : QE X b tb) (hc : QE X c tc) (hm : lastMarks [op, op'] [b, c] = false := by with_unfolding_all rfl) : QT X (.Compare a [op, op'] [b, c] pos) (tTest (tChain r r' ta tb tc)) := .of (pt_chain ho.to ho'.to ha.to hb.to hc.to hm)
theorem qe_if (hc : QT X c tt) (ha : QE X a ta) (hb : QE X b tb) : QE X (.IfExp c a b pos) (tIf tt ta tb) := .of (pe_ifExp hc.to ha.to hb.to)
theorem qe_lst (h : QA X es t) : QE X (.List es pos) (tLst t) := .of (pe_lst h.to)
theorem qe_tup {x1} (h : QA X es t) : QE X (.Tuple es x1 pos) (tTup t) := .of (pe_tup h.to)
theorem qe_dnew : QE X (.Dict [] [] pos) tDNewK := .of pe_dnewK
theorem qo_none : QO X none tNoPart := .of po_none
theorem qo_some (h : QE X e te) : QO X (some e) (tPart te) := .of (po_some h.to)
theorem qe_slice {r : V → Option Int → Option Int → Hp → VK → Prop} {lo hi : Option Expr} {tl th : TO} (hr : QSl X r) (he : QE X e te) (hl : QO X lo tl) (hu : QO X hi th) : QE X (.Subscript e (.Slice lo hi none p2) pos) (tSl r te tl th) := .of (pe_slice hr.to he.to hl.to hu.to)
theorem qe_ix {r : R2} (hr : QIx X r) (ha : QE X a ta) (hb : QE X b tb) (hs : PlainQ b := by exact PlainQ.of (fun _ _ => rfl)) : QE X (.Subscript a b pos) (tOp r ta tb) := .of (pe_ix hr.to ha.to hb.to hs.to)
theorem qa_nil : QA X [] tNil := .of pa_nil
theorem qa (ha : QE X e te) (hr : QA X es t) (hn : notStar e = true := by rfl) : QA X (e :: es) (tCons te t) := .of (pa_c ha.to hr.to hn)
def noStars : List Expr → Bool
  | [] => true
  | e :: r => notStar e && noStars r
theorem noStars_any {env : Env} : ∀ {es : List Expr}, noStars es = true → (backTo pos (starEach es env)).any (·.1) = false
  | [], _ => rfl
  | e :: r, h => by
    have h' : notStar e = true ∧ noStars r = true := by simpa [noStars] using h
    rw [star_of h'.1]
    show (false || (backTo pos (starEach r env)).any (·.1)) = false
    rw [noStars_any h'.2]
    rfl
theorem qe_callB {id : String} {r : List V → Hp → VK → Prop} {x : Str} (hc : QCall X (.builtin id) r) (hm : X.mg x = none) (hv : bootBuiltins x = some (.builtin id)) (ha : QA X (e :: es) t) (hg : Gl X x := by rfl) (hn : x ≠ "__name__" := by decide) (hdb : (x == ("__debug__" : Str)) = false := by decide) (hs : noStars (e :: es) = true := by rfl) :
    QE X (.Call (.Name x p) (e :: es) [] pos) (tCB r t) := by
  have h' : notStar e = true ∧ noStars es = true := by simpa [noStars] using hs
  exact .of (pe_callB hc.to hg hm hv ha.to hn hdb (star_of h'.1) (noStars_any h'.2))
theorem qe_callTy {T : String} {r : List V → Hp → VK → Prop} {x : Str} (hc : QCall X (.type T) r) (hm : X.mg x = none) (hv : bootBuiltins x = some (.type T)) (ha : QA X (e :: es) t) (hg : Gl X x := by rfl) (hn : x ≠ "__name__" := by decide) (hdb : (x == ("__debug__" : Str)) = false := by decide) (hs : noStars (e :: es) = true := by rfl) :
    QE X (.Call (.Name x p) (e :: es) [] pos) (tCB r t) := by
  have h' : notStar e = true ∧ noStars es = true := by simpa [noStars] using hs
  exact .of (pe_callTy hc.to hg hm hv ha.to hn hdb (star_of h'.1) (noStars_any h'.2))
theorem qe_bm0 {o : Expr} {to : TE} {name : Str} {apos cpos : Pos} {T id : String} {r : V → List V → Hp → VK → Prop} (pa : PlainAttrs T) (slot : Slot T name id) (hty : typeOf (.builtin id) = pure (.type "method_descriptor")) (hm : QMt X id r) (ho : QE X o to) (hbase : attributeBase o name X.env (eval o X.env) = eval o X.env := by rfl) (hline : (apos.endLine == cpos.line) = true := by rfl) :
    QE X (.Call (.Attribute o name apos) [] [] cpos) (tBM0 X.K T r to) := .of (pe_bm0 pa slot hty hm.to ho.to hbase hline)
theorem qe_bm1 {o : Expr} {to : TE} {name : Str} {apos cpos : Pos} {T id : String} {r : V → List V → Hp → VK → Prop} (pa : PlainAttrs T) (slot : Slot T name id) (hty : typeOf (.builtin id) = pure (.type "method_descriptor")) (hm : QMt X id r) (ho : QE X o to) (ha : QE X e te) (hbase : attributeBase o name X.env (eval o X.env) = eval o X.env := by rfl) (hline : (apos.endLine == cpos.line) = true := by rfl) (hn : notStar e = true := by rfl)
    (hfew : ((backTo cpos (starEach [e] X.env)).all (fun x => !x.1) && (backToKw cpos (keywordEach [] X.env)).all (fun x => x.1.isSome) && decide ([e].length + ([] : List Keyword).length + (if ([] : List Keyword).isEmpty then 0 else 1) < 30)) = true := by rfl) :
    QE X (.Call (.Attribute o name apos) [e] [] cpos) (tBM X.K T r to (tCons te tNil)) := .of (pe_bm pa slot hty hm.to ho.to (pa_c ha.to pa_nil hn) hbase hfew hline (star_of hn) rfl)
theorem qe_isiT {K : PySem.W.Frag} {c : String} {x : Str} (hm : X.mg "isinstance" = none) (hc : X.mg x = none) (hv : bootBuiltins x = some (.type c)) (ha : QE X a ta) (hg : Gl X "isinstance" := by rfl) (hgc : Gl X x := by rfl) (hn : x ≠ "__name__" := by decide) (hd : (x == ("__debug__" : Str)) = false := by decide) (hs : notStar a = true := by rfl) (hK : X.K = K := by rfl) :
    QE X (.Call (.Name "isinstance" p) [a, .Name x p2] [] pos) (tCB (rIsi K) (tCons ta (tCons (tC (.ty c)) tNil))) := .of (pe_isiT hm hc hv ha.to hg hgc hn hd (star_of hs) hK)
theorem qe_isiC {K : PySem.W.Frag} {C : Addr} {x : Str} (hm : X.mg "isinstance" = none) (hc : X.mg x = some (.ref C)) (ha : QE X a ta) (hg : Gl X "isinstance" := by rfl) (hgc : Gl X x := by rfl) (hd : (x == ("__debug__" : Str)) = false := by decide) (hs : notStar a = true := by rfl) (hK : X.K = K := by rfl) :
    QE X (.Call (.Name "isinstance" p) [a, .Name x p2] [] pos) (tCB (rIsi K) (tCons ta (tCons (tC (.ref C)) tNil))) := .of (pe_isiC hm hc ha.to hg hgc hd (star_of hs) hK)
/-! tests -/
theorem qt_val (h : QE X e te) (he : ∀ whole, isTrue e X.env whole = (do let v ← whole; standAt e.pos; holding [v] (truthy v)) := by intro _; rfl) : QT X e (tB te) := .of (pt_val h.to he)
theorem qt_not (ha : QT X a tt) : QT X (.UnaryOp .Not a pos) (tNot tt) := .of (pt_not ha.to)
theorem qt_w (h : QW X e tt) : QT X e tt := .of h.to.pt
theorem qw_and1 (ha : QT X a tt) : QW X (.BoolOp .And [a] pos) tt := .of (pw_and1 ha.to)
theorem qw_or1 (ha : QT X a tt) : QW X (.BoolOp .Or [a] pos) tt := .of (pw_or1 ha.to)
theorem qw_and (ha : QT X a tt) (hb : QW X (.BoolOp .And (b :: rest) pos) tu) : QW X (.BoolOp .And (a :: b :: rest) pos) (tAnd tt tu) := .of (pw_and ha.to hb.to)
theorem qw_or (ha : QT X a tt) (hb : QW X (.BoolOp .Or (b :: rest) pos) tu) : QW X (.BoolOp .Or (a :: b :: rest) pos) (tOr tt tu) := .of (pw_or ha.to hb.to)
/-! what is walked -/
theorem qi_list {tg : Expr} (hl : QE X e te) : QI X tg e (iList X.K te) := .of (pi_list hl.to)
theorem qi_tup {tg : Expr} (hl : QE X e te) : QI X tg e (iTup X.K te) := .of (pi_tup hl.to)
theorem qi_range1 {tg : Expr} (hm : X.mg "range" = none) (ha : QE X a ta) (hg : Gl X "range" := by rfl) (hn : notStar a = true := by rfl) : QI X tg (.Call (.Name "range" p) [a] [] pos) (iRng1 (tCons ta tNil)) := .of (pi_range1 hg hm (pa_c ha.to pa_nil hn) (star_of hn))
theorem qi_range2 {tg : Expr} (hm : X.mg "range" = none) (ha : QE X a ta) (hb : QE X b tb) (hg : Gl X "range" := by rfl) (hn : notStar a = true := by rfl) (hn2 : notStar b = true := by rfl) : QI X tg (.Call (.Name "range" p) [a, b] [] pos) (iRng2 (tCons ta (tCons tb tNil))) := .of (pi_range2 hg hm (pa_c ha.to (pa_c hb.to pa_nil hn2) hn) (by rw [star_of hn, star_of hn2]; rfl) (star_of hn2))
theorem qi_rev {tg : Expr} (hm : X.mg "reversed" = none) (ha : QE X a ta) (hg : Gl X "reversed" := by rfl) (hn : notStar a = true := by rfl) : QI X tg (.Call (.Name "reversed" p) [a] [] pos) (iRev X.K (tCons ta tNil)) := .of (pi_rev hg hm (pa_c ha.to pa_nil hn) (star_of hn))
/-! statements -/
theorem qss_nil : QSs X [] tNext := .of pss_nil
theorem qss (h1 : QS X st ts) (h2 : QSs X sts us) : QSs X (st :: sts) (tSeq ts us) := .of (pss_cons h1.to h2.to)
theorem qss_one (h1 : QS X st ts) : QSs X [st] ts := .of (pss_one h1.to)
theorem qs_pass : QS X (.Pass pos) tNext := .of ps_pass
theorem qs_never : QS X st tNever := .of ps_never
theorem qss_never : QSs X sts tNever := .of pss_never
theorem qs_ret (he : QE X e te) : QS X (.Return (some e) pos) (tRet te) := .of (ps_ret he.to)
theorem qs_retN : QS X (.Return none pos) tRetN := .of ps_retN
theorem qs_expr (he : QE X e te) (hs : swapsWith e none pos.line X.env = pure false := by rfl) : QS X (.Expr e pos) (tDrop te) := .of (ps_expr he.to hs)
theorem qs_set {i : Nat} {x : Str} {pos' : Pos} (hN : X.N.Nodup) (he : QE X e te) (hi : X.N[i]? = some x := by rfl) (hx : X.env.scope.names.lookup x = some .local := by rfl) (hs : swapsWith e (some (.Name x pos')) pos.line X.env = pure false := by rfl) : QS X (.Assign [.Name x pos'] e pos) (tAsg te (gName i)) := .of (ps_set hN hi (Or.inl hx) he.to hs (.inr hx))
theorem qs_if {sa sb : List Stmt} (hc : QT X c tt) (ha : QSs X sa ts) (hb : QSs X sb us) : QS X (.If c sa sb pos) (tIfS tt ts us) := .of (ps_if hc.to ha.to hb.to)
theorem qg_name {i : Nat} {x : Str} (hN : X.N.Nodup) (hi : X.N[i]? = some x := by rfl) (hx : X.env.scope.names.lookup x = some .local := by rfl) : QG X (.Name x pos) (gName i) := .of (pg_name hN hi (Or.inl hx) (.inr hx))
theorem qs_nox (h : QS X.nox st ts) : QS X st ts := .of (PS.nox h.to)
theorem qss_nox (h : QSs X.nox sts ts) : QSs X sts ts := .of (PSs.nox h.to)
theorem qs_for {tg iter : Expr} {wi : TI} {g : TG} (hi : QI X.nox tg iter wi) (hg : QG X.nox tg g) (hb : QSs X.nox sts ts) (hc : X.calm = true := by rfl) (hs : ∀ x, foldedSetIterable iter X.env x = pure x := by intro _; rfl) : QS X (.For tg iter sts [] pos) (tFor wi g ts) := .of (PS.nox (ps_for PassesOwn.never hc hi.to hg.to hb.to hs))
theorem qs_while (hc : QT X.nox c tt) (hb : QSs X.nox sts ts) : QS X (.While c sts [] pos) (tWhile tt ts) := .of (PS.nox (ps_while PassesOwn.never hc.to hb.to))
theorem qs_put {o i : Expr} {to ti : TE} {pos' : Pos} (he : QE X e te) (ho : QE X o to) (hi : QE X i ti) (ha : ∀ v, assign (.Subscript o i pos') X.env v = (do let ov ← holding [v] (eval o X.env); let iv ← holding [v, ov] (eval i X.env); standAt pos'; holding [v, ov, iv] (setItem ov iv v); release [v, ov, iv] []) := by intro _; rfl)
    (hs : swapsWithSole [.Subscript o i pos'] e pos.line X.env = pure false := by rfl) (hw : swappedStores [.Subscript o i pos'] e X.env = pure none := by rfl) (h1 : (assignEach [.Subscript o i pos'] X.env).map (·.2) = [assign (.Subscript o i pos') X.env] := by rfl) : QS X (.Assign [.Subscript o i pos'] e pos) (tAsg te (gSub to ti rSetL)) := .of (ps_asg he.to (pg_sub ho.to hi.to set_list ha) hs hw h1)
end
section
variable {X : Cx}
theorem q_add : QOp X (binaryOp .Add) (rI0 fun i j => .int (i + j)) := .of op_add
theorem q_sub : QOp X (binaryOp .Sub) (rI0 fun i j => .int (i - j)) := .of op_sub
theorem q_mul : QOp X (binaryOp .Mult) (rI CMul fun i j => .int (i * j)) := .of op_mul
theorem q_fdiv : QOp X (binaryOp .FloorDiv) (rI CDiv fun i j => .int (i / j)) := .of op_fdiv
theorem q_mod : QOp X (binaryOp .Mod) (rI (fun _ j => 0 < j) fun i j => .int (i % j)) := .of op_mod
theorem q_pow : QOp X (binaryOp .Pow) (rI CPow fun i j => .int (i ^ j.toNat)) := .of op_pow
theorem q_cat : QOp X (binaryOp .Add) rCat := .of op_cat
theorem q_rep : QOp X (binaryOp .Mult) rRep := .of op_rep
theorem q_cats : QOp X (binaryOp .Add) (fun x y H Q => ∃ i j, x = .str i ∧ y = .str j ∧ i.length + j.length ≤ sizeLine ∧ Q (.str (i ++ j)) H) := .of op_add_str
theorem q_neg : QUn X (unaryOp .USub) (rU fun i => .int (-i)) := .of un_neg
theorem q_eq : QOp X (compareOp .Eq) rEq := .of op_eq
theorem q_ne : QOp X (compareOp .NotEq) rNe := .of op_ne
theorem q_lt : QOp X (compareOp .Lt) (rI0 fun i j => .bl (decide (i < j))) := .of op_lt
theorem q_le : QOp X (compareOp .LtE) (rI0 fun i j => .bl (decide (i ≤ j))) := .of op_le
theorem q_gt : QOp X (compareOp .Gt) (rI0 fun i j => .bl (decide (j < i))) := .of op_gt
theorem q_ge : QOp X (compareOp .GtE) (rI0 fun i j => .bl (decide (j ≤ i))) := .of op_ge
theorem q_isN : QOp X (compareOp .Is) (fun x y H Q => y = .non ∧ Q (.bl (decide (x = .non))) H) := .of op_isN
theorem q_notN : QOp X (compareOp .IsNot) (fun x y H Q => y = .non ∧ Q (.bl (!decide (x = .non))) H) := .of op_notN
theorem q_eqI (hu : X.A.units + 64 < cLine) : QOp X (compareOp .Eq) (rEqI X.K) := .of (op_eqI hu)
theorem q_neI (hu : X.A.units + 64 < cLine) : QOp X (compareOp .NotEq) (rNeI X.K) := .of (op_neI hu)
theorem q_eqS (hu : X.A.units < cLine) : QOp X (compareOp .Eq) (rEqS X.K) := .of (op_eqS hu)
theorem q_ixl : QIx X (rIxL X.K) := .of ix_list
theorem q_ixt : QIx X (rIxT X.K) := .of ix_tup
theorem q_ixs : QIx X rIxS := .of ix_str
theorem q_sll : QSl X (rSlL X.K) := .of sl_list
theorem q_len : QCall X (.builtin "len") (fun xs H Q => ∃ p ys, xs = [.ref p] ∧ (SqL X.K H p ys ∨ SqT X.K H p ys) ∧ Q (.int ys.length) H) := .of call_len_seq
theorem q_lens : QCall X (.builtin "len") (fun xs H Q => ∃ z, xs = [.str z] ∧ z.length ≤ sizeLine ∧ Q (.int z.length) H) := .of call_len_str
theorem q_list : QCall X (.type "list") (fun xs H Q => ∃ p ys, xs = [.ref p] ∧ (SqL X.K H p ys ∨ SqT X.K H p ys) ∧ ∀ l, H l = none → Q (.ref l) (upd H l (.lst ys))) := .of call_list_of
theorem q_tuple : QCall X (.type "tuple") (fun xs H Q => ∃ p ys, xs = [.ref p] ∧ ((SqL X.K H p ys ∧ ∀ l, H l = none → Q (.ref l) (upd H l (.tup ys))) ∨ (SqT X.K H p ys ∧ Q (.ref p) H))) := .of call_tuple_of
theorem q_max (hc : X.calm = true := by rfl) : QCall X (.builtin "max") (fun xs H Q => ∃ i j, xs = [.int i, .int j] ∧ Q (.int (if j > i then j else i)) H) := .of (call_max2 hc)
theorem q_append : QMt X "list.append" rAppend := .of mt_append
theorem q_pop : QMt X "list.pop" rPop := .of mt_pop
theorem qpN : QPass X E0 := .of passN
end
section
variable {P : Program} {w : World} {K : PySem.W.Frag} {mg : Str → Option Value} {base : Heap} {N : List Str} {qual : Str} {scope : Scope} {f : Addr} {cd : Value} {A : Around} {outer : List Env} {s₀ : Shared} {H₀ : Hp} {E : XK}
theorem qpX : QPass (cxOf (CX1 P w) P w K mg base N qual scope f cd A outer s₀ H₀ E) E := .of passX
theorem qs_raise {x z : Str} {C : Addr} {np cpos pos zp : Pos} {zj : Nat} {B newId initId : String} {bmB : List Value} (FB : ExcBaseFacts B newId initId bmB) (hm : mg x = some (.ref C)) (q : PySem.W.excIn K C bmB newId = true) (hg : Gl (cxOf (CX1 P w) P w K mg base N qual scope f cd A outer s₀ H₀ E) x := by rfl) (hd : (x == ("__debug__" : Str)) = false := by decide) :
    QS (cxOf (CX1 P w) P w K mg base N qual scope f cd A outer s₀ H₀ E) (.Raise (some (.Call (.Name x np) [.Constant (.str z) zj zp] [] cpos)) none pos) (fun _ _ H => E (.ref C) none H) := .of (ps_raise FB hg hm q hd)
theorem qs_try {X : Cx} {x n : Str} {i : Nat} {C0 : Addr} {body suite : List Stmt} {b₀ : Stmt} {np hpos pos : Pos} {tb : XK → TS} {th : TS} (hN : X.N.Nodup) (hm : X.mg x = some (.ref C0))
    (hb : ∀ (xe : Value → Shared → Prop) (pn : List (Addr × Obj)) (E1 : XK), QPass (X.tried xe pn) E1 → QSs (X.tried xe pn) body (tb E1))
    (hh : ∀ (ea : Addr) (pn : List (Addr × Obj)), QSs (X.held ea pn) (b₀ :: suite) th) (hex : X.ex = [] := by rfl) (hst : X.stack = X.env :: X.outer := by rfl) (hfr : X.env.frame = some X.env.locals := by rfl) (hi : X.N[i]? = some n := by rfl) (hl : X.env.scope.names.lookup n = some .local := by rfl) (hg : Gl X x := by rfl) (hd : (x == ("__debug__" : Str)) = false := by decide) :
    QS X (.Try body [.ExceptHandler (some (.Name x np)) (some n) (b₀ :: suite) hpos] [] [] pos) (tTry X.K C0 X.N.length i tb th) :=
  .of (ps_try hex hst hfr hN hi hl hg hm (fun xe pn E1 hp => (hb xe pn E1 (.of hp)).to) (fun ea pn => (hh ea pn).to) hd)
end
end L2

/-! ### a list comprehension over a list of ints; range(a, b, -1) -/
namespace L2
open PySem PySem.Spec PyProof.Rows
/-- an expression of the one name x, an int's value to an int -/
def EltI (X : Cx) (x : Str) (scope : Scope) (elt : Expr) (g : Int → Int) : Prop :=
  ∀ (C : Addr) (z : Int) (t : Tok) (s : Shared) (m : Str → Option Value) (E : Value → Shared → Prop), s.heap.Ns C m → m x = some (.int z t) →
    wpAny (model X.prog X.w) X.A (eval elt (compEnvC scope [] C X.env)) (fun y s' => (∃ t', y = .int (g z) t') ∧ Keeps s s') E s
def tLc (K : PySem.W.Frag) (g : Int → Int) (ti : TE) : TE := fun σ H Q => ti σ H fun v H1 => ∃ (a : Addr) (ns : List Int), v = .ref a ∧ SqL K H1 a (ns.map V.int) ∧ ∀ p, H1 p = none → Q (.ref p) (upd H1 p (.lst ((ns.map g).map V.int)))
section
variable {X : Cx}
theorem elt_neg {x : Str} {scope : Scope} {p p2 : Pos} (hk : scope.kind = .function) (hx : scope.names.lookup x = some .local) (hd : (x == ("__debug__" : Str)) = false := by decide) : EltI X x scope (.UnaryOp .USub (.Name x p) p2) (fun z => -z) := by
  intro C z t s m E hn hm
  have hl : (compEnvC scope [] C X.env).kindOf x = some .local := lookup_relabel_local hx
  refine UnaryOp_ (wpAny_Name (wpAny_loadName_local (by simp [compEnvC, relabel, hk]) hl hn hm ?_) hd)
  exact neg_int ⟨⟨_, rfl⟩, _, _, rfl, fun _ _ e => e⟩
theorem pairs_of {g : Int → Int} : ∀ {ns : List Int} {us ys : List Value}, Vals (ns.map V.int) us → Paired (fun v y => ∀ z t, v = Value.int z t → ∃ t', y = Value.int (g z) t') us ys → Vals ((ns.map g).map V.int) ys
  | [], _, _, .nil, .nil => .nil
  | n :: r, _, _, .cons h1 t1, .cons h2 t2 => by
    obtain ⟨t, rfl⟩ := h1
    exact .cons (h2 n t rfl) (pairs_of t1 t2)
theorem pe_lc {elt iter : Expr} {x : Str} {px pos : Pos} {scope : Scope} {ti : TE} {g : Int → Int} (hc : X.calm = true) (hi : PE X iter ti) (he : EltI X x scope elt g) (hfree : ∀ y ∈ scope.names, y.2 ≠ .free) (hcell : ∀ y ∈ scope.names, y.2 ≠ .cell) (hkind : scope.kind = .function)
    (hnames : ∀ y ∈ scope.names, y.2 = .local → scope.names.lookup y.1 = some .local) (hx : scope.names.lookup x = some .local) (hs : ∀ x, foldedSetIterable iter X.env x = pure x := by intro _; rfl) :
    PE X (.ListComp elt [⟨.Name x px, iter, [], 0⟩] scope pos) (tLc X.K g ti) := by
  intro pins s σ H Q I h
  refine wpAny_ListComp_free (cl := []) (fun _ => true) (fun v y => ∀ z t, v = Value.int z t → ∃ t', y = Value.int (g z) t') (closureFor_none hfree) hcell hkind hnames hx (thn (hi pins s σ H _ I h) fun v s1 ⟨y, H1, I1, r1, q1⟩ => ?_) hs
  obtain ⟨a, ns, rfl, hq, q⟩ := q1
  cases r1
  obtain ⟨its, rv, pl, hz⟩ := I1.list hq
  have hla : a < s1.heap.objs.size := by obtain ⟨o, e, _⟩ := pl.isList; exact Heap.lt_size e
  have hlen := rv.length
  have hint : ∀ v ∈ its, ∃ z t, v = Value.int z t := by
    intro v hv
    obtain ⟨i, hi2, rfl⟩ := List.getElem_of_mem hv
    have : (ns.map V.int)[i]? = some (V.int (ns[i]'(by rw [List.length_map] at hlen; omega))) := by rw [List.getElem?_map, List.getElem?_eq_getElem (by rw [List.length_map] at hlen; omega)]; rfl
    obtain ⟨u, e1, t, e2⟩ := rv.get this
    rw [List.getElem?_eq_getElem hi2] at e1
    cases e1
    exact ⟨_, t, e2⟩
  refine wpAny_pyIter_list pl.isList ?_
  refine ⟨s1.heap.objs.size, _, _, _, _, _, rfl, Walks.list (I1.ok.hd hc) s1.heap.objs.size a (Nat.ne_of_lt hla) its.toArray, ?_, ⟨⟨_, Heap.get?_push_size _ rfl, rfl, rfl⟩, pl.isList.at fun o e => Heap.get?_push_of_some _ e⟩, ?_, ⟨?_, ?_⟩, ?_⟩
  · rw [List.size_toArray, ← hlen]; exact hz
  · intro b hb
    show b < (s1.heap.push _).objs.size
    rw [Heap.size_push]
    rcases List.mem_cons.mp hb with e | hb
    · rw [e]; exact Nat.lt_succ_self _
    · rcases List.mem_cons.mp hb with e | hb
      · rw [e]; exact Nat.lt_succ_of_lt hla
      · cases hb
  · intro C i v s3 m3 E' _ _ hn hm _ _
    exact wpAny_pure ⟨rfl, _, _, rfl, fun _ _ e => e⟩
  · intro C i v s3 m3 E' _ hv _ hn hm _ _
    obtain ⟨z, t, rfl⟩ := hint v (by
      have e2 : its[i]? = some v := by simpa using hv
      exact List.mem_of_getElem? e2)
    exact thn (he C z t s3 m3 E' hn hm) fun y s4 ⟨hy, hk⟩ => ⟨fun z' t' e => by cases e; exact hy, hk⟩
  · intro D h' tk ys vs hD _ hpl hvl hvs hF hk
    have ev : vs = its := by
      refine List.ext_getElem? fun j => ?_
      cases e : vs[j]? with
      | none =>
        have h1 : vs.length ≤ j := List.getElem?_eq_none_iff.mp e
        rw [hvl, List.size_toArray] at h1
        exact (List.getElem?_eq_none_iff.mpr h1).symm
      | some v => simpa using (hvs j v e).symm
    subst ev
    rw [List.filter_eq_self.mpr (fun _ _ => rfl)] at hF
    have hV : Vals ((ns.map g).map V.int) ys.toList := pairs_of rv hF
    have keep : ∀ b o, s1.heap.get? b = some o → h'.get? b = some o := fun b o e => hk b o (by
      intro z
      have z' : b = s1.heap.objs.size := by simpa using z
      exact absurd (Heap.lt_size e) (by rw [z']; exact Nat.lt_irrefl _)) (Heap.get?_push_of_some _ e)
    have nD : ∀ b o, s1.heap.get? b = some o → b ≠ D := fun b o e z => by
      subst z
      rw [Heap.get?_push_of_some _ e] at hD
      cases hD
    have J : Inv X pins σ H1 { s1 with heap := h', toks := tk } := I1.kept keep
    have hn : H1 D = none := by
      cases e : H1 D with
      | none => rfl
      | some u =>
        obtain ⟨o, eo⟩ := (I1.hok D u e).there
        exact absurd rfl (nD D o eo)
    obtain ⟨n0, hpl⟩ := hpl
    refine ⟨.ref D, _, J.track (o := .lst ((ns.map g).map V.int)) hn (fun ob e => ?_) (fun z => ?_) (fun y c e z => ?_) (fun p hp z => ?_) ⟨?_, ys.toList, n0, hV, ?_⟩, rfl, q D hn⟩
    · by_cases hx : D ∈ X.ex
      · exact .inr hx
      · obtain ⟨o', e'⟩ := I1.base.there D ob e hx
        exact absurd rfl (nD D o' e')
    · obtain ⟨_, ⟨o, _, _, e, _⟩, _⟩ := I1.loc
      exact nD _ o e z.symm
    · obtain ⟨w', o, e2, _⟩ := I1.cell y c e
      exact nD c o e2 z
    · exact nD _ _ (I1.pin p hp).1 z
    · rw [List.length_map, List.length_map]; rw [List.length_map] at hz; exact hz
    · simpa using hpl
/-- [-x for x in e] -/
theorem qe_lcneg {iter : Expr} {x : Str} {p p2 px pos : Pos} {scope : Scope} {ti : TE} (hi : QE X iter ti) (hc : X.calm = true := by rfl) (hfree : ∀ y ∈ scope.names, y.2 ≠ .free := by decide) (hcell : ∀ y ∈ scope.names, y.2 ≠ .cell := by decide) (hkind : scope.kind = .function := by rfl)
    (hnames : ∀ y ∈ scope.names, y.2 = .local → scope.names.lookup y.1 = some .local := by decide) (hx : scope.names.lookup x = some .local := by rfl) (hs : ∀ x, foldedSetIterable iter X.env x = pure x := by intro _; rfl) (hd : (x == ("__debug__" : Str)) = false := by decide) :
    QE X (.ListComp (.UnaryOp .USub (.Name x p) p2) [⟨.Name x px, iter, [], 0⟩] scope pos) (tLc X.K (fun z => -z) ti) := .of (pe_lc hc hi.to (elt_neg hkind hx hd) hfree hcell hkind hnames hx hs)
end
/-! range(a, b, -1) -/
def Itd (hi : Int) (n : Nat) : It := ⟨fun i _ => i < n, fun i H x H' => H' = H ∧ x = .int (hi - i), fun i _ => n ≤ i⟩
theorem turn_down {P : Program} {w : World} {K : PySem.W.Frag} {tg : Expr} (it : Addr) (hi : Int) (n : Nat) : Turn P w K tg (Itd hi n) [it] it (fun i h => IsRangeIter h it (hi + (i : Nat) * (-1)) ((n : Int) - (i : Nat)) (-1)) where
  mem := by simp
  obj := fun i h st b hb => by
    have e : b = it := by simpa using hb
    subst e
    exact ⟨_, st, fun v z => by
      have z' : Data.fields _ = Data.cell v := z
      cases z'⟩
  keep := fun i h h' st k => k it (by simp) _ st
  item := by
    intro X hP hw hK hc i pins s σ H E I hf st hg
    subst hP hw hK
    obtain ⟨f0, f1, f2, f3, f4, f5⟩ := hf it (by simp)
    have W := Walks.range (prog := X.prog) (w := X.w) (I.ok.hd hc) it hi (-1) n
    refine W.item i s _ _ hg st fun v h' tk hv st' kk => ?_
    obtain ⟨t, rfl⟩ := hv
    have I1 : Inv X pins σ H { s with heap := h', toks := tk } := I.turned (fun b o hb e => kk b o (by simpa using hb) e) f0 f1 f3 f4 f5
    refine ⟨_, rfl, go_of (s := { s with heap := h', toks := tk }) (n := "range_iterator") st' rfl rfl (by decide) ⟨.int (hi - i), H, I1, ⟨t, ?_⟩, ⟨rfl, rfl⟩, st', fun b hb => (hf b hb).1⟩⟩
    have e : hi + (i : Int) * -1 = hi - i := by omega
    rw [e]
  done := by
    intro X hP hw hK hc i pins s σ H E I hf st hg
    subst hP hw hK
    obtain ⟨f0, f1, f2, f3, f4, f5⟩ := hf it (by simp)
    exact wpAny_pyNext_range_end (I.ok.hd hc) st (by have : n ≤ i := hg; omega) fun h' eb => ⟨rfl, I.turned (t' := s.toks) (fun b o hb e => eb b o hb e) f0 f1 f3 f4 f5⟩
  self := fun _ _ _ _ _ st h => wpAny_pyIter_rangeiter st h
theorem size_down (a b : Int) : Builtin.Range.rangeSize a b (-1) = if b < a then a - b else 0 := by
  unfold Builtin.Range.rangeSize
  rw [if_neg (by decide)]
  split <;> simp <;> omega
def iDown (ta tb : TE) : TI := fun σ H R => (tCons ta (tCons tb (tCons (tUn (rU fun i => .int (-i)) (tC (.int 1))) tNil))) σ H fun vs H2 => ∃ hi lo : Int, vs = [.int hi, .int lo, .int (-1)] ∧ (-(2 ^ 60) ≤ hi ∧ hi < 2 ^ 60 ∧ -(2 ^ 60) ≤ lo ∧ lo < 2 ^ 60) ∧ R (Itd hi (hi - lo).toNat) H2
section
variable {X : Cx} {tg : Expr}
theorem pi_down {a b : Expr} {ta tb : TE} {p pos p3 q3 : Pos} {k3 : Nat} (hg : Gl X "range") (hm : X.mg "range" = none) (ha : PE X a ta) (hb : PE X b tb) (na : notStar a = true) (nb : notStar b = true) :
    PI X tg (.Call (.Name "range" p) [a, b, .UnaryOp .USub (.Constant (.int 1) k3 p3) q3] [] pos) (iDown ta tb) := by
  intro pins s σ H R I h
  have pa : PA X [a, b, .UnaryOp .USub (.Constant (.int 1) k3 p3) q3] (tCons ta (tCons tb (tCons (tUn (rU fun i => .int (-i)) (tC (.int 1))) tNil))) := pa_c ha (pa_c hb (pa_c (pe_un un_neg pe_int) pa_nil) nb) na
  have nbs : noStars [b, .UnaryOp .USub (.Constant (.int 1) k3 p3) q3] = true := by
    show (notStar b && true) = true
    rw [nb]; rfl
  refine Call_ (ld_blt I hg hm boot_range (PyProof.Rows.callWith_type1 (thn (pa pos pins s σ H _ I h) fun us s1 ⟨vs, H1, I1, r1, q1⟩ => ?_) (star_of na) (noStars_any nbs)))
  obtain ⟨hi, lo, e, ⟨h1, h2, h3, h4⟩, q⟩ := q1
  subst e
  cases r1 with
  | cons r rr =>
    cases rr with
    | cons r' rr =>
      cases rr with
      | cons r'' rr =>
        cases rr
        obtain ⟨t, rfl⟩ := r
        obtain ⟨t', rfl⟩ := r'
        obtain ⟨t'', rfl⟩ := r''
        refine call_range_3 (by decide) ?_ (.inl (PyProof.noPylong_small (by omega)))
        refine wpAny_pyIter_range (IsRange.new ..) ?_ ?_
        · unfold Builtin.Range.small
          rw [size_down]
          simp only [Builtin.Range.rangeFitsLong, Bool.and_eq_true, Bool.or_eq_true, decide_eq_true_eq]
          refine ⟨?_, ?_⟩ <;> (try split) <;> (try simp) <;> (try omega)
        · have I2 : Inv X pins σ H1 { s1 with heap := s1.heap.push { cls := .type "range", data := .fields #[.int hi t, .int lo t', .int (-1) t''] }, toks := s1.toks } := I1.kept fun b o e => Heap.get?_push_of_some _ e
          refine ⟨(s1.heap.push { cls := .type "range", data := .fields #[.int hi t, .int lo t', .int (-1) t''] }).objs.size, [(s1.heap.push { cls := .type "range", data := .fields #[.int hi t, .int lo t', .int (-1) t''] }).objs.size], _, _, H1, rfl,
            I2.kept (t' := s1.toks) fun b o e => Heap.get?_push_of_some _ e, turn_down _ hi (hi - lo).toNat, ?_, fun b hb => ?_, q⟩
          · have e1 : hi + ((0 : Nat) : Int) * (-1) = hi := by simp
            have e2 : (((hi - lo).toNat : Nat) : Int) - ((0 : Nat) : Int) = Builtin.Range.rangeSize hi lo (-1) := by rw [size_down]; split <;> omega
            show IsRangeIter _ _ (hi + ((0 : Nat) : Int) * (-1)) ((((hi - lo).toNat : Nat) : Int) - ((0 : Nat) : Int)) (-1)
            rw [e1, e2]
            exact Heap.get?_push_size _ rfl
          · have e : b = (s1.heap.push { cls := .type "range", data := .fields #[.int hi t, .int lo t', .int (-1) t''] }).objs.size := by simpa using hb
            subst e
            exact I2.fpOk (Nat.le_refl _) (I2.hok.fresh (Nat.le_refl _))
theorem qi_down {a b : Expr} {ta tb : TE} {p pos p3 q3 : Pos} {k3 : Nat} (hm : X.mg "range" = none) (ha : QE X a ta) (hb : QE X b tb) (hg : Gl X "range" := by rfl) (na : notStar a = true := by rfl) (nb : notStar b = true := by rfl) :
    QI X tg (.Call (.Name "range" p) [a, b, .UnaryOp .USub (.Constant (.int 1) k3 p3) q3] [] pos) (iDown ta tb) := .of (pi_down hg hm ha.to hb.to na nb)
end
theorem for_down {hi : Int} {n : Nat} {g : TG} {tb : TS} {D : Ends} {σ : St} {H : Hp} (Pv : Nat → St → Hp → Prop) (h0 : Pv 0 σ H) (hs : ∀ i σ H, i < n → Pv i σ H → g (.int (hi - i)) σ H fun σ2 H2 => tb { D with nx := Pv (i + 1), ct := Pv (i + 1), bk := D.nx } σ2 H2)
    (hd : ∀ σ H, Pv n σ H → D.nx σ H) :
    ∃ W : Nat → Nat → St → Hp → Prop, (∃ m, W 0 m σ H) ∧ ∀ i m σ H, W i m σ H → ((Itd hi n).stop i H ∧ D.nx σ H) ∨ ((Itd hi n).go i H ∧ ∃ N : St → Hp → Prop, (∀ σ' H', N σ' H' → ∃ m', m' < m ∧ W (i + 1) m' σ' H') ∧ ∀ x H', (Itd hi n).yld i H x H' → g x σ H' fun σ2 H2 => tb { D with nx := N, ct := N, bk := D.nx } σ2 H2) := by
  refine ⟨fun i m σ H => i ≤ n ∧ m = n - i ∧ Pv i σ H, ⟨_, Nat.zero_le _, rfl, h0⟩, fun i m σ H ⟨hi2, hm, hp⟩ => ?_⟩
  by_cases he : i = n
  · subst he
    exact .inl ⟨Nat.le_refl _, hd σ H hp⟩
  · refine .inr ⟨show i < n by omega, Pv (i + 1), fun σ' H' h' => ⟨n - (i + 1), by omega, by omega, rfl, h'⟩, fun x H' ⟨e1, e2⟩ => ?_⟩
    subst e1 e2
    exact hs i σ H' (by omega) hp
end L2

/-! ### exceptions with the state at which they were raised: a try whose handler reads other names, and may fall through -/
namespace L2
open PySem PySem.Spec PyProof.Rows
/-- an exception of a callee reaches what this body wants of exceptions, by the state of the names at the call -/
def PassAt (X : Cx) (F : St → XK) : Prop := ∀ (pins : List (Addr × Obj)) (σ : St) (H : Hp) (s : Shared) (e : Value) (s' : Shared), Inv X pins σ H s → CX1 X.prog X.w X.stack H s (F σ) e s' → X.xe e s'
@[irreducible] def QPassAt (X : Cx) (F : St → XK) : Prop := PassAt X F
/-- a call whose exceptions see the state -/
def tCallS (sp : Sp) (dvs : List V) (F : St → XK) (t : TA) : TE := fun σ H Q => t σ H fun vs H2 => sp (vs ++ dvs) H2 Q (F σ)
section
variable {X : Cx} {k : Nat} {f : Addr} {fd : FuncData} {ps : List Str} {sp : Sp} {dvs : List V} {ds : List Value} {F : St → XK} {x : Str} {p pos : Pos} {e : Expr} {es : List Expr} {t : TA}
theorem run_fnS {pins : List (Addr × Obj)} {σ : St} {H : Hp} {s : Shared} {Q : VK} {us : List Value} {vs : List V} (G : FnOk X.prog X.w X.K X.mg X.base (CX1 X.prog X.w) k f fd ps sp) (hr : Room k X.A) (hb : Binds X.K fd ps ds) (hd : Vals dvs ds) (hx : PassAt X F)
    (I : Inv X pins σ H s) (r : Vals vs us) (h : sp (vs ++ dvs) H Q (F σ)) : wpAny (model X.prog X.w) X.A (call (.ref f) us) (EP X pins σ Q) X.xe s := by
  have rr := r.append hd
  have len : (us ++ ds).length = ps.length := rr.length.symm.trans (G.len _ _ _ _ h)
  have go := G.run X.A X.stack s H ⟨us, []⟩ (us ++ ds) (vs ++ dvs) Q (F σ) hr I.env0 (hb s us I.kIn len) rr h
  refine wpAny_call (codeAny_mono go ?_)
  rintro (e | fl) s' q
  · exact hx pins σ H s e s' I q
  · cases fl <;> first | exact I.after q | exact q.elim
theorem pe_callS (G : FnOk X.prog X.w X.K X.mg X.base (CX1 X.prog X.w) k f fd ps sp) (hr : Room k X.A) (hg : Gl X x) (hm : X.mg x = some (.ref f)) (hk : PySem.W.keepIn X.K (.ref f) = true) (hb : Binds X.K fd ps ds) (hd : Vals dvs ds) (hx : PassAt X F)
    (ha : PA X (e :: es) t) (hdb : (x == ("__debug__" : Str)) = false) (he : starEach (e :: es) X.env = (false, eval e X.env) :: starEach es X.env) (hpl : (backTo pos (starEach es X.env)).any (·.1) = false) :
    PE X (.Call (.Name x p) (e :: es) [] pos) (tCallS sp dvs F t) := by
  intro pins s σ H Q I h
  have run : ∀ {s1 : Shared} {us : List Value} {vs : List V} {H1 : Hp}, Inv X pins σ H1 s1 → Vals vs us → sp (vs ++ dvs) H1 Q (F σ) → wpAny (model X.prog X.w) X.A (call (.ref f) us) (EP X pins σ Q) X.xe s1 := fun I1 r q => run_fnS G hr hb hd hx I1 r q
  refine wpAny_Call_Name_kw (ld_glob I hg hm ?_ hdb)
  refine PySem.W.callWith_K (h₀ := X.base) I.ok.mod.kin hk ?_ he hpl
  exact thn (ha pos pins s σ H _ I h) fun us s1 ⟨vs, H1, I1, r, q⟩ => ⟨I1.kIn, run I1 r q⟩
end
def tTryS (K : PySem.W.Frag) (C0 : Addr) (i : Nat) (tb : (St → XK) → TS) (th : TS) : TS := fun D σ H =>
  tb (fun σ' cls _ H' => ∃ C, cls = .ref C ∧ PySem.W.exmOne K (.ref C) (.ref C0) = some true ∧ ∀ ea, H' ea = none → th { nx := fun σ2 H2 => D.nx (σ2.set i none) H2, rt := D.rt } (σ'.set i (some (.ref ea))) (upd H' ea (exO ea C))) D σ H
section
variable {X : Cx}
/-- try: .. except C as n: .. (the suite may read the names, and may fall through) -/
theorem ps_tryS {x n : Str} {i : Nat} {C0 : Addr} {body suite : List Stmt} {b₀ : Stmt} {np hpos pos : Pos} {tb : (St → XK) → TS} {th : TS} (hex : X.ex = []) (hst : X.stack = X.env :: X.outer) (hfr : X.env.frame = some X.env.locals)
    (hN : X.N.Nodup) (hi : X.N[i]? = some n) (hl : X.env.scope.names.lookup n = some .local) (hg : Gl X x) (hm : X.mg x = some (.ref C0))
    (hb : ∀ (xe : Value → Shared → Prop) (pn : List (Addr × Obj)) (E1 : St → XK), PassAt (X.tried xe pn) E1 → PSs (X.tried xe pn) body (tb E1))
    (hh : ∀ (ea : Addr) (pn : List (Addr × Obj)), PSs (X.held ea pn) (b₀ :: suite) th) (hd : (x == ("__debug__" : Str)) = false := by decide) :
    PS X (.Try body [.ExceptHandler (some (.Name x np)) (some n) (b₀ :: suite) hpos] [] [] pos) (tTryS X.K C0 i tb th) := by
  intro pins s σ H D I h
  refine wpAny_Try_except ?_
  refine wpAny_mono ((hb (fun e s₁ => wpAny (model X.prog X.w) X.A (noteFrame e X.env) (fun _ s₂ => wpAny (model X.prog X.w) X.A (setFlight e none) (fun _ s₃ =>
    wpAny (model X.prog X.w) X.A (handleBy e X.env [.ExceptHandler (some (.Name x np)) (some n) (b₀ :: suite) hpos]) (SP X pins D) X.xe s₃) X.xe s₂) X.xe s₁) (X.pn ++ pins) _ ?_) [] s σ H D (I.tried rfl) h) (fun f s1 q => ?_) fun _ _ z => z
  · intro pins' σ' H1 s1 e s' I1 hf
    obtain ⟨ea, C, a0, B, H', rfl, fl, fw, C', eC, hx, k⟩ := hf
    cases eC
    have hn : H' ea = none := by
      cases q : H' ea with
      | none => rfl
      | some u =>
        obtain ⟨o, z⟩ := fl.trk ea (by rw [q]; intro z; cases z)
        rw [fw.2.1] at z
        cases z
    have fw' : Heap.FlyingW B (X.env :: X.outer) ea (.ref C) a0 s'.heap := by
      have z : (X.tried (fun _ _ => True) []).stack = X.env :: X.outer := hst
      rw [← z]; exact fw
    have hfs : X.A.frames = some (X.env :: X.outer) := by rw [← hst]; exact I.ok.frames
    refine wpAny_looks_onW hfs hfr fw' fun h4 hd4 up4 => ?_
    refine wpAny_landsW hd4 fun h5 fl5 up5 => ?_
    have at5 : ∀ {h6 : Heap}, B.StaysIn h6 → s'.heap.UpToSlots h6 → Inv X pins σ' H' { s' with heap := h6 } := fun {h6} st up => by
      have m5 := fl.move (t := s'.toks) I1.stack I1.stkFree st up
      exact Inv.untried (Inv.call' (ch := []) I1 m5.os m5.un m5.hok m5.bare (fun _ z => nomatch z)) rfl
    have I5 := at5 fl5.1 (up4.trans up5)
    have Ih : Inv (X.held ea (X.pn ++ pins)) [] σ' H' _ := I5.held rfl
    obtain ⟨ob, hob, hoc⟩ := fl5.there
    refine wpAny_handleBy_cons (codeAny_handlers_test (ld_glob Ih hg hm ?_ hd)) (by intro q; cases q)
    have LT : PySem.W.Looks (model X.prog X.w) h5 (typeOf (.ref ea)) (.ref C) := by
      rw [← hoc]; exact (PySem.W.Looks.ld hob).andThen .now
    refine (PySem.W.exm_one Ih.kIn LT hx).here ?_
    refine codeAny_handlers_suite_as (lands_againW fl5 fun h6 fl6 up6 => ?_)
    have I6 := at5 fl6.1 ((up4.trans up5).trans up6)
    obtain ⟨oe, vs, T, oT, ts, hoe, ⟨hoec, _⟩, hoed, _⟩ := id fl6.2.2.2
    have nfr : ∀ b ∈ frs X.stack, b ≠ ea := fun b hb z => by
      subst z
      obtain ⟨_, o', e', nf⟩ := I6.stack.mem hb
      rw [hoe] at e'; cases e'
      exact nf _ hoed
    have nB : ∀ b o, B.get? b = some o → b ≠ ea := fun b o e z => by rw [z, fl6.2.1] at e; cases e
    have hL : ea ≠ X.env.locals := fun z => nfr X.env.locals (by rw [hst]; unfold frs; rw [List.filterMap_cons, hfr]; exact List.mem_cons_self) z.symm
    have It : Inv X pins σ' (upd H' ea (exO ea C)) { s' with heap := h6 } := by
      refine I6.track hn (fun ob' e => ?_) hL (fun y c e => ?_) (fun p hp => ?_) ⟨⟨oe, hoe, hoec, _, hoed⟩, ⟨oe, hoe⟩, fun h1 h2 ⟨o, e1, e2⟩ kk => ⟨o, kk o e1, e2⟩⟩
      · by_cases hb : ea ∈ X.fs
        · exact absurd rfl (nfr ea (by rw [hst]; unfold frs; rw [List.filterMap_cons, hfr]; exact List.mem_cons_of_mem _ hb))
        · obtain ⟨o1, e1⟩ := I1.base.there ea ob' e (show ea ∉ X.ex by rw [hex]; simp)
          obtain ⟨o2, e2⟩ := fl.there ea o1 e1 (I1.offStack e hb)
          exact absurd rfl (nB ea o2 e2)
      · intro z
        subst z
        obtain ⟨v, o', e', hd'⟩ := I6.cell y c e
        rw [hoe] at e'; cases e'
        rw [hoed] at hd'; cases hd'
      · obtain ⟨e1, e2, e3, e4, _⟩ := I1.pin p (List.mem_append_left _ hp)
        refine nB p.1 p.2 (fl.old p.1 p.2 e1 e2 fun z => ?_)
        rcases List.mem_cons.mp (I1.stkSub p.1 z) with q | q
        · exact e3 q
        · exact e4 q
    have Iht : Inv (X.held ea (X.pn ++ pins)) [] σ' (upd H' ea (exO ea C)) { s' with heap := h6 } := It.held rfl
    refine store_ok (X := X.held ea (X.pn ++ pins)) (v := .ref ea) (i := i) Iht hN hi (Or.inl hl) rfl (fun s7 I7 => ?_) (.inr hl)
    refine wpAny_mono (hh ea _ [] s7 _ _ _ I7 (k ea hn)) (fun f s8 q8 => ?_) fun _ _ z => z.elim
    cases f with
    | next =>
      obtain ⟨σ8, H8, I8, d8⟩ := q8
      have I8' : Inv X pins σ8 H8 s8 := I8.unheld I.ok rfl
      obtain ⟨m8, hm8, _⟩ := id I8'.loc
      refine wpAny_nameGoes_keeps hl hm8 (by rw [I.ok.kind]; rfl) fun h9 v9 hn9 hs9 => ?_
      exact ⟨_, H8, I8'.goes hN hi hm8 hn9 hs9, d8⟩
    | brk => obtain ⟨_, _, _, z⟩ := q8; exact z.elim
    | cont => obtain ⟨_, _, _, z⟩ := q8; exact z.elim
    | ret u =>
      obtain ⟨v, σ8, H8, I8, r8, d8⟩ := q8
      have I8' : Inv X pins σ8 H8 s8 := I8.unheld I.ok rfl
      obtain ⟨m8, hm8, _⟩ := id I8'.loc
      refine wpAny_nameGoes_keeps hl hm8 (by rw [I.ok.kind]; rfl) fun h9 v9 hn9 hs9 => ?_
      exact ⟨v, _, H8, I8'.goes hN hi hm8 hn9 hs9, r8, d8⟩
  · have q' : SP X pins D f s1 := SP.untried q rfl
    cases f with
    | next => exact wpAny_execs_nil q'
    | brk => exact q'
    | cont => exact q'
    | ret u => exact q'
theorem qs_tryS {x n : Str} {i : Nat} {C0 : Addr} {body suite : List Stmt} {b₀ : Stmt} {np hpos pos : Pos} {tb : (St → XK) → TS} {th : TS} (hN : X.N.Nodup) (hm : X.mg x = some (.ref C0))
    (hb : ∀ (xe : Value → Shared → Prop) (pn : List (Addr × Obj)) (E1 : St → XK), QPassAt (X.tried xe pn) E1 → QSs (X.tried xe pn) body (tb E1))
    (hh : ∀ (ea : Addr) (pn : List (Addr × Obj)), QSs (X.held ea pn) (b₀ :: suite) th) (hex : X.ex = [] := by rfl) (hst : X.stack = X.env :: X.outer := by rfl) (hfr : X.env.frame = some X.env.locals := by rfl) (hi : X.N[i]? = some n := by rfl) (hl : X.env.scope.names.lookup n = some .local := by rfl) (hg : Gl X x := by rfl) (hd : (x == ("__debug__" : Str)) = false := by decide) :
    QS X (.Try body [.ExceptHandler (some (.Name x np)) (some n) (b₀ :: suite) hpos] [] [] pos) (tTryS X.K C0 i tb th) :=
  .of (ps_tryS hex hst hfr hN hi hl hg hm (fun xe pn E1 hp => (hb xe pn E1 (by unfold QPassAt; exact hp)).to) (fun ea pn => (hh ea pn).to) hd)
end
/-! a list comprehension with tests; one that is given a name -/
def FltI (X : Cx) (x : Str) (scope : Scope) (ifs : List Expr) (p : Int → Bool) : Prop :=
  ∀ (C : Addr) (z : Int) (t : Tok) (s : Shared) (m : Str → Option Value) (E : Value → Shared → Prop), s.heap.Ns C m → m x = some (.int z t) →
    wpAny (model X.prog X.w) X.A (forIn ifs true fun c r => if r = true then do let ok ← PySem.isTrue c (compEnvC scope [] C X.env) (eval c (compEnvC scope [] C X.env)); pure (ForInStep.yield ok) else pure (ForInStep.yield r)) (fun ok s' => ok = p z ∧ Keeps s s') E s
def pVal (p : Int → Bool) : Value → Bool
  | .int z _ => p z
  | _ => false
def tLcP (K : PySem.W.Frag) (p : Int → Bool) (g : Int → Int) (ti : TE) : TE := fun σ H Q => ti σ H fun v H1 => ∃ (a : Addr) (ns : List Int), v = .ref a ∧ SqL K H1 a (ns.map V.int) ∧ ∀ q, H1 q = none → Q (.ref q) (upd H1 q (.lst (((ns.filter p).map g).map V.int)))
section
variable {X : Cx}
theorem flt_nil {x : Str} {scope : Scope} : FltI X x scope [] (fun _ => true) := fun _ _ _ _ _ _ _ _ => wpAny_pure ⟨rfl, _, _, rfl, fun _ _ e => e⟩
theorem flt_ne {x : Str} {scope : Scope} {p p2 p3 : Pos} {j : Nat} {k : Int} (hk : scope.kind = .function) (hx : scope.names.lookup x = some .local) (hd : (x == ("__debug__" : Str)) = false := by decide) :
    FltI X x scope [.Compare (.Name x p) [.NotEq] [.Constant (.int k) j p2] p3] (fun z => z != k) := by
  intro C z t s m E hn hm
  have hl : (compEnvC scope [] C X.env).kindOf x = some .local := lookup_relabel_local hx
  have one : wpAny (model X.prog X.w) X.A (isTrue (.Compare (.Name x p) [.NotEq] [.Constant (.int k) j p2] p3) (compEnvC scope [] C X.env) (eval (.Compare (.Name x p) [.NotEq] [.Constant (.int k) j p2] p3) (compEnvC scope [] C X.env))) (fun ok s' => ok = (z != k) ∧ Keeps s s') E s := by
    refine wpAny_isTrue_Compare1 (wpAny_Name (wpAny_loadName_local (by simp [compEnvC, relabel, hk]) hl hn hm ?_) hd) (nomark _)
    refine wpAny_Constant_int ?_
    exact ne_int (wpAny_truthy_bool ⟨rfl, _, _, rfl, fun _ _ e => e⟩)
  rw [List.forIn_cons, if_pos rfl]
  refine wpAny_bind (wpAny_bind (thn one fun ok s' h => wpAny_pure ?_))
  exact wpAny_pure h
end
section
variable {X : Cx}
theorem elt_id {x : Str} {scope : Scope} {p : Pos} (hk : scope.kind = .function) (hx : scope.names.lookup x = some .local) (hd : (x == ("__debug__" : Str)) = false := by decide) : EltI X x scope (.Name x p) (fun z => z) := by
  intro C z t s m E hn hm
  have hl : (compEnvC scope [] C X.env).kindOf x = some .local := lookup_relabel_local hx
  exact wpAny_Name (wpAny_loadName_local (by simp [compEnvC, relabel, hk]) hl hn hm ⟨⟨_, rfl⟩, _, _, rfl, fun _ _ e => e⟩) hd
theorem pairs_flt {p : Int → Bool} {g : Int → Int} : ∀ {ns : List Int} {us ys : List Value}, Vals (ns.map V.int) us → Paired (fun v y => ∀ z t, v = Value.int z t → ∃ t', y = Value.int (g z) t') (us.filter (pVal p)) ys → Vals (((ns.filter p).map g).map V.int) ys
  | [], _, _, .nil, .nil => .nil
  | n :: r, _, ys, .cons h1 t1, q => by
    obtain ⟨t, rfl⟩ := h1
    by_cases hp : p n = true
    · have e : pVal p (Value.int n t) = true := hp
      rw [List.filter_cons_of_pos e] at q
      rw [List.filter_cons_of_pos hp]
      cases q with
      | cons h2 t2 => exact .cons (h2 n t rfl) (pairs_flt t1 t2)
    · have e : ¬ pVal p (Value.int n t) = true := hp
      rw [List.filter_cons_of_neg e] at q
      rw [List.filter_cons_of_neg hp]
      exact pairs_flt t1 q
/-- what a walk over a list of ints needs of the tests and the element -/
theorem quiet_of {elt : Expr} {ifs : List Expr} {x : Str} {scope : Scope} {p : Int → Bool} {g : Int → Int} {its : List Value} {wr : List Addr} {s2 : Shared} (he : EltI X x scope elt g) (hf : FltI X x scope ifs p) (hint : ∀ v ∈ its, ∃ z t, v = Value.int z t) :
    QuietOnC X.prog X.w X.A X.env scope [] x ifs elt wr (fun j v => its.toArray[j]? = some v) (pVal p) (fun v y => ∀ z t, v = Value.int z t → ∃ t', y = Value.int (g z) t') s2 := by
  have hv : ∀ {i : Nat} {v : Value}, its.toArray[i]? = some v → ∃ z t, v = Value.int z t := fun {i v} e => hint v (by
    have e2 : its[i]? = some v := by simpa using e
    exact List.mem_of_getElem? e2)
  refine ⟨?_, ?_⟩
  · intro C i v s3 m3 E' _ e hn hm _ _
    obtain ⟨z, t, rfl⟩ := hv e
    exact hf C z t s3 m3 E' hn hm
  · intro C i v s3 m3 E' _ e _ hn hm _ _
    obtain ⟨z, t, rfl⟩ := hv e
    exact thn (he C z t s3 m3 E' hn hm) fun y s4 ⟨hy, hk⟩ => ⟨fun z' t' e => by cases e; exact hy, hk⟩
theorem all_ints {ns : List Int} {its : List Value} (rv : Vals (ns.map V.int) its) : ∀ v ∈ its, ∃ z t, v = Value.int z t := by
  have hlen := rv.length
  intro v hv
  obtain ⟨i, hi2, rfl⟩ := List.getElem_of_mem hv
  have : (ns.map V.int)[i]? = some (V.int (ns[i]'(by rw [List.length_map] at hlen; omega))) := by rw [List.getElem?_map, List.getElem?_eq_getElem (by rw [List.length_map] at hlen; omega)]; rfl
  obtain ⟨u, e1, t, e2⟩ := rv.get this
  rw [List.getElem?_eq_getElem hi2] at e1
  cases e1
  exact ⟨_, t, e2⟩
theorem same_list {vs its : List Value} (hvl : vs.length = its.toArray.size) (hvs : ∀ (j : Nat) v, vs[j]? = some v → its.toArray[j]? = some v) : vs = its := by
  refine List.ext_getElem? fun j => ?_
  cases e : vs[j]? with
  | none =>
    have h1 : vs.length ≤ j := List.getElem?_eq_none_iff.mp e
    rw [hvl, List.size_toArray] at h1
    exact (List.getElem?_eq_none_iff.mpr h1).symm
  | some v => simpa using (hvs j v e).symm
/-- a name gets what a new object's address is, the other objects kept -/
theorem Inv.puts {pins : List (Addr × Obj)} {σ : St} {H : Hp} {s : Shared} {i : Nat} {x : Str} {v : V} {u : Value} {m : Str → Option Value} {h' : Heap} {t : Nat} (I : Inv X pins σ H s) (hN : X.N.Nodup) (hi : X.N[i]? = some x) (hl : X.env.scope.names.lookup x = some .local) (r : RelV v u)
    (hm : s.heap.Ns X.env.locals m) (hn : h'.Ns X.env.locals fun y => if y = x then some u else m y) (hk : ∀ b o, b ≠ X.env.locals → s.heap.get? b = some o → h'.get? b = some o) : Inv X pins (σ.set i (some v)) H { s with heap := h', toks := t } := by
  have hiσ : i < σ.length := by rw [I.len]; exact (List.getElem?_eq_some_iff.mp hi).1
  have ne : ∀ b o, X.s₀.heap.get? b = some o → b ≠ X.env.locals := fun b o e => Nat.ne_of_lt (Nat.lt_of_lt_of_le (Heap.lt_size e) I.ok.above)
  refine ⟨I.ok, I.os, I.bare, ⟨fun b o e n hb hx => hk b o (ne b o e) (I.base.keep b o e n hb hx), fun b o e n hb hx => ?_, I.base.free, fun b o e hx => ?_, I.base.tups, I.base.frzs, I.base.tbls⟩, ⟨_, hn, fun j y v' e1 e2 e3 => ?_⟩, fun y c e => ?_, I.free, I.freeC, fun p hp => ?_, fun b u e => ?_, ?_⟩
  · obtain ⟨sl, e1⟩ := I.base.slot b o e n hb hx
    exact ⟨sl, hk b _ (ne b o e) e1⟩
  · obtain ⟨o', e1⟩ := I.base.there b o e hx
    exact ⟨o', hk b _ (ne b o e) e1⟩
  · by_cases hj : j = i
    · subst hj
      rw [List.getElem?_set_self hiσ] at e2
      cases e2
      have ey : y = x := Option.some.inj (e1.symm.trans hi)
      subst ey
      exact ⟨u, r, .inl ⟨hl, by simp⟩⟩
    · rw [List.getElem?_set_ne (Ne.symm hj)] at e2
      obtain ⟨m1, hm1, hl1⟩ := I.loc
      obtain ⟨u', r', q⟩ := hl1 j y v' e1 e2 e3
      refine ⟨u', r', ?_⟩
      rcases q with ⟨k, e⟩ | ⟨k, c, e, z⟩
      · refine .inl ⟨k, ?_⟩
        have ny : y ≠ x := fun e => hj (nodup_ix hN e1 (e ▸ hi))
        have em : m = m1 := hm.eq_nsMap.trans hm1.eq_nsMap.symm
        simp [ny, em, e]
      · obtain ⟨o, z1, z2⟩ := z
        exact .inr ⟨k, c, e, o, hk c o (I.cne y c e) z1, z2⟩
  · obtain ⟨w', o, z1, z2⟩ := I.cell y c e
    exact ⟨w', o, hk c o (I.cne y c e) z1, z2⟩
  · obtain ⟨e, n, ne2, nf, d⟩ := I.pin p hp
    exact ⟨hk p.1 p.2 ne2 e, n, ne2, nf, d⟩
  · refine (I.hok b u e).stay (fun c w' hc q => hk c w' ?_ q) (fun _ q => q) fun _ _ q => q
    rintro rfl
    rcases hc with hc | hc
    · rw [← hc, I.free] at e; cases e
    · rw [I.free] at hc; cases hc
  · simpa using I.len
end
section
variable {X : Cx}
theorem pe_lcP {elt iter : Expr} {ifs : List Expr} {x : Str} {px pos : Pos} {scope : Scope} {ti : TE} {p : Int → Bool} {g : Int → Int} (hc : X.calm = true) (hi : PE X iter ti) (he : EltI X x scope elt g) (hf : FltI X x scope ifs p) (hfree : ∀ y ∈ scope.names, y.2 ≠ .free) (hcell : ∀ y ∈ scope.names, y.2 ≠ .cell) (hkind : scope.kind = .function)
    (hnames : ∀ y ∈ scope.names, y.2 = .local → scope.names.lookup y.1 = some .local) (hx : scope.names.lookup x = some .local) (hs : ∀ x, foldedSetIterable iter X.env x = pure x) :
    PE X (.ListComp elt [⟨.Name x px, iter, ifs, 0⟩] scope pos) (tLcP X.K p g ti) := by
  intro pins s σ H Q I h
  refine wpAny_ListComp_free (cl := []) (pVal p) (fun v y => ∀ z t, v = Value.int z t → ∃ t', y = Value.int (g z) t') (closureFor_none hfree) hcell hkind hnames hx (thn (hi pins s σ H _ I h) fun v s1 ⟨y, H1, I1, r1, q1⟩ => ?_) hs
  obtain ⟨a, ns, rfl, hq, q⟩ := q1
  cases r1
  obtain ⟨its, rv, pl, hz⟩ := I1.list hq
  have hla : a < s1.heap.objs.size := by obtain ⟨o, e, _⟩ := pl.isList; exact Heap.lt_size e
  have hlen := rv.length
  refine wpAny_pyIter_list pl.isList ?_
  refine ⟨s1.heap.objs.size, _, _, _, _, _, rfl, Walks.list (I1.ok.hd hc) s1.heap.objs.size a (Nat.ne_of_lt hla) its.toArray, ?_, ⟨⟨_, Heap.get?_push_size _ rfl, rfl, rfl⟩, pl.isList.at fun o e => Heap.get?_push_of_some _ e⟩, ?_, quiet_of he hf (all_ints rv), ?_⟩
  · rw [List.size_toArray, ← hlen]; exact hz
  · intro b hb
    show b < (s1.heap.push _).objs.size
    rw [Heap.size_push]
    rcases List.mem_cons.mp hb with e | hb
    · rw [e]; exact Nat.lt_succ_self _
    · rcases List.mem_cons.mp hb with e | hb
      · rw [e]; exact Nat.lt_succ_of_lt hla
      · cases hb
  · intro D h' tk ys vs hD _ hpl hvl hvs hF hk
    have ev : vs = its := same_list hvl hvs
    subst ev
    have hV := pairs_flt (p := p) (g := g) rv hF
    have keep : ∀ b o, s1.heap.get? b = some o → h'.get? b = some o := fun b o e => hk b o (by
      intro z
      have z' : b = s1.heap.objs.size := by simpa using z
      exact absurd (Heap.lt_size e) (by rw [z']; exact Nat.lt_irrefl _)) (Heap.get?_push_of_some _ e)
    have nD : ∀ b o, s1.heap.get? b = some o → b ≠ D := fun b o e z => by
      subst z
      rw [Heap.get?_push_of_some _ e] at hD
      cases hD
    have J : Inv X pins σ H1 { s1 with heap := h', toks := tk } := I1.kept keep
    have hn : H1 D = none := by
      cases e : H1 D with
      | none => rfl
      | some u =>
        obtain ⟨o, eo⟩ := (I1.hok D u e).there
        exact absurd rfl (nD D o eo)
    obtain ⟨n0, hpl⟩ := hpl
    refine ⟨.ref D, _, J.track (o := .lst (((ns.filter p).map g).map V.int)) hn (fun ob e => ?_) (fun z => ?_) (fun y c e z => ?_) (fun p hp z => ?_) ⟨?_, ys.toList, n0, hV, ?_⟩, rfl, q D hn⟩
    · by_cases hx : D ∈ X.ex
      · exact .inr hx
      · obtain ⟨o', e'⟩ := I1.base.there D ob e hx
        exact absurd rfl (nD D o' e')
    · obtain ⟨_, ⟨o, _, _, e, _⟩, _⟩ := I1.loc
      exact nD _ o e z.symm
    · obtain ⟨w', o, e2, _⟩ := I1.cell y c e
      exact nD c o e2 z
    · exact nD _ _ (I1.pin p hp).1 z
    · rw [List.length_map, List.length_map]; rw [List.length_map] at hz; exact Nat.le_trans (List.length_filter_le _ _) hz
    · simpa using hpl
/-- a name gets a comprehension -/
def tSetLc (i : Nat) (t : TE) : TS := fun D σ H => t σ H fun v H1 => D.nx (σ.set i (some v)) H1
theorem ps_setlc {elt iter : Expr} {ifs : List Expr} {x y : Str} {px py pos spos : Pos} {scope : Scope} {ti : TE} {p : Int → Bool} {g : Int → Int} {i : Nat} (hc : X.calm = true) (hN : X.N.Nodup) (hiN : X.N[i]? = some y) (hl : X.env.scope.names.lookup y = some .local) (hi : PE X iter ti) (he : EltI X x scope elt g) (hf : FltI X x scope ifs p)
    (hsw : swapsWith (.ListComp elt [⟨.Name x px, iter, ifs, 0⟩] scope pos) (some (.Name y py)) spos.line X.env = pure true)
    (hfree : ∀ y ∈ scope.names, y.2 ≠ .free) (hcell : ∀ y ∈ scope.names, y.2 ≠ .cell) (hkind : scope.kind = .function)
    (hnames : ∀ y ∈ scope.names, y.2 = .local → scope.names.lookup y.1 = some .local) (hx : scope.names.lookup x = some .local) (hs : ∀ x, foldedSetIterable iter X.env x = pure x) :
    PS X (.Assign [.Name y py] (.ListComp elt [⟨.Name x px, iter, ifs, 0⟩] scope pos) spos) (tSetLc i (tLcP X.K p g ti)) := by
  intro pins s σ H D' I h
  have hp0 : (X.env.scope.kind == .class || (X.env.scope.kind == .module && X.env.locals != X.env.globals)) = false := by rw [I.ok.kind]; rfl
  refine wpAny_Assign_ListComp_free (cl := []) (pVal p) (fun v y => ∀ z t, v = Value.int z t → ∃ t', y = Value.int (g z) t') hsw (closureFor_none hfree) hcell hkind hnames hx hl hp0 (thn (hi pins s σ H _ I h) fun v s1 ⟨y, H1, I1, r1, q1⟩ => ?_) hs
  obtain ⟨a, ns, rfl, hq, q⟩ := q1
  cases r1
  obtain ⟨its, rv, pl, hz⟩ := I1.list hq
  have hla : a < s1.heap.objs.size := by obtain ⟨o, e, _⟩ := pl.isList; exact Heap.lt_size e
  have hlen := rv.length
  obtain ⟨m1, hm1, _⟩ := id I1.loc
  have hL : X.env.locals < s1.heap.objs.size := by obtain ⟨o, _, _, e, _⟩ := hm1; exact Heap.lt_size e
  refine wpAny_pyIter_list pl.isList ?_
  refine ⟨s1.heap.objs.size, _, _, _, _, _, m1, rfl, Walks.list (I1.ok.hd hc) s1.heap.objs.size a (Nat.ne_of_lt hla) its.toArray, ?_, ⟨⟨_, Heap.get?_push_size _ rfl, rfl, rfl⟩, pl.isList.at fun o e => Heap.get?_push_of_some _ e⟩, ?_, ?_, hm1.at' fun o e => Heap.get?_push_of_some _ e, quiet_of he hf (all_ints rv), ?_⟩
  · rw [List.size_toArray, ← hlen]; exact hz
  · intro b hb
    show b < (s1.heap.push _).objs.size
    rw [Heap.size_push]
    rcases List.mem_cons.mp hb with e | hb
    · rw [e]; exact Nat.lt_succ_self _
    · rcases List.mem_cons.mp hb with e | hb
      · rw [e]; exact Nat.lt_succ_of_lt hla
      · cases hb
  · intro z
    have z' : X.env.locals = s1.heap.objs.size := by simpa using z
    exact absurd hL (by rw [z']; exact Nat.lt_irrefl _)
  · intro D h' tk ys vs hD _ hpl hvl hvs hF hns hk
    have ev : vs = its := same_list hvl hvs
    subst ev
    have hV := pairs_flt (p := p) (g := g) rv hF
    have keep : ∀ b o, b ≠ X.env.locals → s1.heap.get? b = some o → h'.get? b = some o := fun b o nl e => hk b o nl (by
      intro z
      have z' : b = s1.heap.objs.size := by simpa using z
      exact absurd (Heap.lt_size e) (by rw [z']; exact Nat.lt_irrefl _)) (Heap.get?_push_of_some _ e)
    have nD : ∀ b o, s1.heap.get? b = some o → b ≠ D := fun b o e z => by
      subst z
      rw [Heap.get?_push_of_some _ e] at hD
      cases hD
    have J : Inv X pins (σ.set i (some (.ref D))) H1 { s1 with heap := h', toks := tk } := I1.puts hN hiN hl rfl hm1 hns keep
    have hn : H1 D = none := by
      cases e : H1 D with
      | none => rfl
      | some u =>
        obtain ⟨o, eo⟩ := (I1.hok D u e).there
        exact absurd rfl (nD D o eo)
    obtain ⟨n0, hpl⟩ := hpl
    refine ⟨_, _, J.track (o := .lst (((ns.filter p).map g).map V.int)) hn (fun ob e => ?_) (fun z => ?_) (fun y c e z => ?_) (fun p hp z => ?_) ⟨?_, ys.toList, n0, hV, ?_⟩, q D hn⟩
    · by_cases hx : D ∈ X.ex
      · exact .inr hx
      · obtain ⟨o', e'⟩ := I1.base.there D ob e hx
        exact absurd rfl (nD D o' e')
    · obtain ⟨_, ⟨o, _, _, e, _⟩, _⟩ := I1.loc
      exact nD _ o e z.symm
    · obtain ⟨w', o, e2, _⟩ := I1.cell y c e
      exact nD c o e2 z
    · exact nD _ _ (I1.pin p hp).1 z
    · rw [List.length_map, List.length_map]; rw [List.length_map] at hz; exact Nat.le_trans (List.length_filter_le _ _) hz
    · simpa using hpl
/-- [x for x in e if x != k] -/
theorem qe_lcne {iter : Expr} {x : Str} {p p1 p2 p3 px pos : Pos} {scope : Scope} {ti : TE} {j : Nat} {k : Int} (hi : QE X iter ti) (hc : X.calm = true := by rfl) (hfree : ∀ y ∈ scope.names, y.2 ≠ .free := by decide) (hcell : ∀ y ∈ scope.names, y.2 ≠ .cell := by decide) (hkind : scope.kind = .function := by rfl)
    (hnames : ∀ y ∈ scope.names, y.2 = .local → scope.names.lookup y.1 = some .local := by decide) (hx : scope.names.lookup x = some .local := by rfl) (hs : ∀ x, foldedSetIterable iter X.env x = pure x := by intro _; rfl) (hd : (x == ("__debug__" : Str)) = false := by decide) :
    QE X (.ListComp (.Name x p) [⟨.Name x px, iter, [.Compare (.Name x p1) [.NotEq] [.Constant (.int k) j p2] p3], 0⟩] scope pos) (tLcP X.K (fun z => z != k) (fun z => z) ti) := .of (pe_lcP hc hi.to (elt_id hkind hx hd) (flt_ne hkind hx hd) hfree hcell hkind hnames hx hs)
/-- y = [-x for x in e] -/
theorem qs_setneg {iter : Expr} {x y : Str} {p p2 px py pos spos : Pos} {scope : Scope} {ti : TE} {i : Nat} (hN : X.N.Nodup) (hi : QE X iter ti) (hiN : X.N[i]? = some y := by rfl) (hl : X.env.scope.names.lookup y = some .local := by rfl) (hsw : swapsWith (.ListComp (.UnaryOp .USub (.Name x p) p2) [⟨.Name x px, iter, [], 0⟩] scope pos) (some (.Name y py)) spos.line X.env = pure true := by rfl)
    (hc : X.calm = true := by rfl) (hfree : ∀ y ∈ scope.names, y.2 ≠ .free := by decide) (hcell : ∀ y ∈ scope.names, y.2 ≠ .cell := by decide) (hkind : scope.kind = .function := by rfl)
    (hnames : ∀ y ∈ scope.names, y.2 = .local → scope.names.lookup y.1 = some .local := by decide) (hx : scope.names.lookup x = some .local := by rfl) (hs : ∀ x, foldedSetIterable iter X.env x = pure x := by intro _; rfl) (hd : (x == ("__debug__" : Str)) = false := by decide) :
    QS X (.Assign [.Name y py] (.ListComp (.UnaryOp .USub (.Name x p) p2) [⟨.Name x px, iter, [], 0⟩] scope pos) spos) (tSetLc i (tLcP X.K (fun _ => true) (fun z => -z) ti)) := .of (ps_setlc hc hN hiN hl hi.to (elt_neg hkind hx hd) flt_nil hsw hfree hcell hkind hnames hx hs)
end
/-! a stop on the way: what holds behind a statement, for all that follows -/
def tMid (J : L2.St → Hp → Prop) (t u : TS) : TS := fun D σ H => t { D with nx := J } σ H ∧ ∀ σ' H', J σ' H' → u D σ' H'
theorem pss_mid {X : Cx} {st : Stmt} {rest : List Stmt} {t u : TS} (J : L2.St → Hp → Prop) (h1 : PS X st t) (h2 : PSs X rest u) : PSs X (st :: rest) (tMid J t u) := by
  rintro pins s σ H D I ⟨a, b⟩
  have go := h1 pins s σ H { D with nx := J } I a
  refine wpAny_execs_cons (thn go ?_)
  rintro (_ | _ | _ | _) s1 q
  case next =>
    obtain ⟨σ', H', I', j⟩ := q
    exact h2 pins s1 σ' H' D I' (b σ' H' j)
  all_goals exact q
theorem qss_mid {X : Cx} {st : Stmt} {rest : List Stmt} {t u : TS} (J : L2.St → Hp → Prop) (h1 : QS X st t) (h2 : QSs X rest u) : QSs X (st :: rest) (tMid J t u) := .of (pss_mid J h1.to h2.to)
/-! two tuples of plain things, alike -/
def rEqT (K : PySem.W.Frag) : R2 := fun x y H Q => ∃ a b xs, x = .ref a ∧ y = .ref b ∧ SqT K H a xs ∧ SqT K H b xs ∧ xs.all okV = true ∧ Q (.bl true) H
section
variable {X : Cx}
theorem op_eqT (hu : X.A.units < cLine) : OpR X (compareOp .Eq) (rEqT X.K) := by
  intro pins s σ H x y v u Q I rx ry h
  obtain ⟨a, b, xs, rfl, rfl, h1, h2, hk, q⟩ := h
  cases rx; cases ry
  obtain ⟨i1, r1, p1, _⟩ := I.tuple h1
  obtain ⟨i2, r2, p2, _⟩ := I.tuple h2
  have l1 := r1.length
  have l2 := r2.length
  refine SeqAt.eq_tupleAt (e := fun _ => true) p1 p2 hu (fun j g1 g2 => ?_) ?_
  · have hj : j < xs.length := by simp at g1; omega
    have hx : xs[j]? = some xs[j] := List.getElem?_eq_getElem hj
    obtain ⟨u1, e1, q1⟩ := r1.get hx
    obtain ⟨u2, e2, q2⟩ := r2.get hx
    have f1 : i1.toArray[j] = u1 := by
      have := List.getElem?_eq_some_iff.mp e1
      obtain ⟨_, z⟩ := this
      simpa using z
    have f2 : i2.toArray[j] = u2 := by
      have := List.getElem?_eq_some_iff.mp e2
      obtain ⟨_, z⟩ := this
      simpa using z
    rw [f1, f2]
    exact eqAt_okV q1 q2 (List.all_eq_true.mp hk _ (List.getElem_mem hj))
  · refine ⟨.bl true, H, I, ?_, q⟩
    have z : ((List.range (min i1.toArray.size i2.toArray.size)).all (fun _ => true) && i1.toArray.size == i2.toArray.size) = true := by simp; omega
    rw [z]
    rfl
theorem q_eqT (hu : X.A.units < cLine) : QOp X (compareOp .Eq) (rEqT X.K) := .of (op_eqT hu)
end
end L2

/-! ### comprehensions as blocks of their own: their names, the cells of the def around them, any walk -/
namespace L2
open PySem PySem.Spec PyProof.Rows
/-- the cells that a comprehension takes from the def around it -/
def clOf (cells : List (Str × Addr)) : List (Str × NameKind) → List (Str × Addr) → List (Str × Addr)
  | [], acc => acc
  | (n, k) :: r, acc => clOf cells r (if (k == NameKind.free) = true then (n, (cells.lookup n).getD 0) :: acc else acc)
theorem clOf_mem {cells : List (Str × Addr)} : ∀ {names : List (Str × NameKind)} {acc : List (Str × Addr)}, (∀ y ∈ names, y.2 = .free → ∃ c, cells.lookup y.1 = some c) → (∀ p ∈ acc, cells.lookup p.1 = some p.2) → ∀ p ∈ clOf cells names acc, cells.lookup p.1 = some p.2
  | [], acc, _, ha => ha
  | (n, k) :: r, acc, h, ha => by
    refine clOf_mem (names := r) (fun y hy => h y (List.mem_cons_of_mem _ hy)) fun p hp => ?_
    by_cases hk : (k == NameKind.free) = true
    · rw [if_pos hk] at hp
      rcases List.mem_cons.mp hp with rfl | hp
      · obtain ⟨c, e⟩ := h (n, k) List.mem_cons_self (by simpa using hk)
        have e' : cells.lookup n = some c := e
        show cells.lookup n = some ((cells.lookup n).getD 0)
        rw [e']; rfl
      · exact ha p hp
    · rw [if_neg hk] at hp; exact ha p hp
theorem clOf_has {cells : List (Str × Addr)} {x : Str} : ∀ {names : List (Str × NameKind)} {acc : List (Str × Addr)}, ((x, NameKind.free) ∈ names ∨ ∃ c, (x, c) ∈ acc) → ∃ c, (x, c) ∈ clOf cells names acc
  | [], acc, h => h.elim (fun z => nomatch z) fun z => z
  | (n, k) :: r, acc, h => by
    refine clOf_has (names := r) ?_
    rcases h with h | ⟨c, h⟩
    · rcases List.mem_cons.mp h with e | h
      · cases e
        exact .inr ⟨_, by rw [if_pos (by rfl)]; exact List.mem_cons_self⟩
      · exact .inl h
    · refine .inr ⟨c, ?_⟩
      split
      · exact List.mem_cons_of_mem _ h
      · exact h
theorem lookup_has {x : Str} : ∀ {l : List (Str × Addr)} {c : Addr}, (x, c) ∈ l → ∃ d, l.lookup x = some d
  | [], _, h => nomatch h
  | (n, d) :: r, c, h => by
    rw [List.lookup_cons]
    cases e : x == n with
    | true => exact ⟨d, rfl⟩
    | false =>
      rcases List.mem_cons.mp h with z | z
      · cases z; simp at e
      · exact lookup_has z
theorem closureFor_cl {scope : Scope} {env : Env} (h : ∀ y ∈ scope.names, y.2 = .free → ∃ c, env.cells.lookup y.1 = some c) : closureFor scope env = pure (clOf env.cells scope.names []) := by
  have go : ∀ (names : List (Str × NameKind)) (acc : List (Str × Addr)), (∀ y ∈ names, y.2 = .free → ∃ c, env.cells.lookup y.1 = some c) →
      (forIn names acc fun x r => (match x with | (name, kind) => if (kind == NameKind.free) = true then (do let a ← cellOf env name; pure (ForInStep.yield ((name, a) :: r))) else pure (ForInStep.yield r) : Sem (ForInStep (List (Str × Addr))))) = (pure (clOf env.cells names acc) : Sem _) := by
    intro names
    induction names with
    | nil => intro acc _; rfl
    | cons y r ih =>
      intro acc hy
      obtain ⟨n, k⟩ := y
      rw [List.forIn_cons]
      by_cases hk : (k == NameKind.free) = true
      · obtain ⟨c, e⟩ := hy (n, k) List.mem_cons_self (by simpa using hk)
        have e' : env.cells.lookup n = some c := e
        have ec : cellOf env n = pure c := by unfold cellOf; rw [e']
        show ((if (k == NameKind.free) = true then (do let a ← cellOf env n; pure (ForInStep.yield ((n, a) :: acc))) else pure (ForInStep.yield acc)) >>= _) = _
        rw [if_pos hk, ec]
        have q := ih ((n, c) :: acc) fun y hy' => hy y (List.mem_cons_of_mem _ hy')
        show (forIn r ((n, c) :: acc) _ : Sem (List (Str × Addr))) = pure (clOf env.cells r (if (k == NameKind.free) = true then (n, (env.cells.lookup n).getD 0) :: acc else acc))
        rw [if_pos hk, e']
        exact q
      · have q := ih acc fun y hy' => hy y (List.mem_cons_of_mem _ hy')
        show ((if (k == NameKind.free) = true then (do let a ← cellOf env n; pure (ForInStep.yield ((n, a) :: acc))) else pure (ForInStep.yield acc)) >>= _) = pure (clOf env.cells r (if (k == NameKind.free) = true then (n, (env.cells.lookup n).getD 0) :: acc else acc))
        rw [if_neg hk, if_neg hk]
        exact q
  have q := go scope.names [] h
  exact (congrArg (fun z : Sem (List (Str × Addr)) => z >>= fun r => pure r) q).trans rfl
/-- the context of a comprehension's block: frame C, over the state at its entry -/
def cxComp (X : Cx) (N : List Str) (scope : Scope) (C : Addr) (fp : List Addr) (s : Shared) (H : Hp) : Cx :=
  { X with N := N, s₀ := s, H₀ := H, env := compEnvC scope (clOf X.env.cells scope.names []) C X.env, outer := X.stack, ex := fp, fn := fun _ => false, pn := [], xe := fun _ _ => False }
/-- the values of a comprehension's names at its start: its own have none, the others are the def's -/
def compSt (pick : List (Option Nat)) (σ : St) : St := pick.map fun o => o.bind fun j => (σ[j]?).join
def compOk (X : Cx) (scope : Scope) (N : List Str) (pick : List (Option Nat)) : Bool :=
  (scope.names.all fun y => y.2 != .cell && (y.2 != .free || X.env.kindOf y.1 == some .cell) && (y.2 != .local || scope.names.lookup y.1 == some .local)) && (pick.length == N.length) &&
    ((N.zip pick).all fun p => match p.2 with
      | none => true
      | some j => X.N[j]? == some p.1 && X.env.kindOf p.1 == some .cell && scope.names.lookup p.1 == some .free && (relabel scope X.env).names.lookup p.1 == some .cell) && scope.kind == .function
theorem relabel_free {env : Env} : ∀ {names : List (Str × NameKind)} {x : Str} {k : NameKind}, (names.map fun (n, k) => if (k == NameKind.free && env.scope.kind == .function && env.kindOf n == some .cell) then (n, NameKind.cell) else (n, k)).lookup x = some k → (k = .cell ∨ k = .free) → (∀ y ∈ names, y.2 ≠ .cell) → (x, NameKind.free) ∈ names
  | [], _, _, h, _, _ => by simp at h
  | (n, k') :: r, x, k, h, hk, hc => by
    have ih := @relabel_free env r x k
    have h' : List.lookup x ((if (k' == NameKind.free && env.scope.kind == .function && env.kindOf n == some .cell) = true then (n, NameKind.cell) else (n, k')) :: _) = _ := h
    by_cases hx : (x == n) = true
    · have en : x = n := by simpa using hx
      subst en
      by_cases hf : (k' == NameKind.free) = true
      · have : k' = .free := by simpa using hf
        subst this
        exact List.mem_cons_self
      · rw [if_neg (by intro z; simp at z hf; exact hf z.1.1), List.lookup_cons, hx] at h'
        cases h'
        rcases hk with e | e
        · exact absurd e (hc _ List.mem_cons_self)
        · subst e; exact absurd rfl hf
    · have hx' : (x == n) = false := by simpa using hx
      split at h' <;> rw [List.lookup_cons, hx'] at h' <;> exact List.mem_cons_of_mem _ (ih h' hk fun y hy => hc y (List.mem_cons_of_mem _ hy))
section
variable {X : Cx} {pins : List (Addr × Obj)} {σ : St} {H : Hp} {s : Shared} {N : List Str} {scope : Scope} {pick : List (Option Nat)} {fp : List Addr}
structure CompFacts (X : Cx) (scope : Scope) (N : List Str) (pick : List (Option Nat)) : Prop where
  nocell : ∀ y ∈ scope.names, y.2 ≠ .cell
  free : ∀ y ∈ scope.names, y.2 = .free → X.env.kindOf y.1 = some .cell
  loc : ∀ y ∈ scope.names, y.2 = .local → scope.names.lookup y.1 = some .local
  len : pick.length = N.length
  pk : ∀ (i : Nat) (x : Str) (j : Nat), N[i]? = some x → pick[i]? = some (some j) → X.N[j]? = some x ∧ X.env.kindOf x = some .cell ∧ scope.names.lookup x = some .free ∧ (relabel scope X.env).names.lookup x = some .cell
  kind : scope.kind = .function
theorem comp_facts (h : compOk X scope N pick = true) : CompFacts X scope N pick := by
  unfold compOk at h
  simp only [Bool.and_eq_true] at h
  obtain ⟨⟨⟨h1, h2⟩, h3⟩, h4⟩ := h
  have g := List.all_eq_true.mp h1
  refine ⟨fun y hy => ?_, fun y hy e => ?_, fun y hy e => ?_, by simpa using h2, fun i x j e1 e2 => ?_, by simpa using h4⟩
  · have := g y hy
    simp only [Bool.and_eq_true] at this
    simpa using this.1.1
  · have := g y hy
    simp only [Bool.and_eq_true] at this
    have q := this.1.2
    rw [e] at q
    simpa using q
  · have := g y hy
    simp only [Bool.and_eq_true] at this
    have q := this.2
    rw [e] at q
    simpa using q
  · have hm : (x, some j) ∈ N.zip pick := by
      refine List.mem_of_getElem? (i := i) ?_
      rw [List.getElem?_zip_eq_some]
      exact ⟨e1, e2⟩
    have q := List.all_eq_true.mp h3 _ hm
    simp only [Bool.and_eq_true] at q
    obtain ⟨⟨⟨a, b⟩, c⟩, d⟩ := q
    exact ⟨by simpa using a, by simpa using b, by simpa using c, by simpa using d⟩
theorem Inv.cellsOf (I : Inv X pins σ H s) (F : CompFacts X scope N pick) : ∀ y ∈ scope.names, y.2 = .free → ∃ c, X.env.cells.lookup y.1 = some c := fun y hy e => I.ok.has y.1 (.inl (F.free y hy e))
theorem Inv.clSub (I : Inv X pins σ H s) (F : CompFacts X scope N pick) {x : Str} {c : Addr} (e : (clOf X.env.cells scope.names []).lookup x = some c) : X.env.cells.lookup x = some c :=
  clOf_mem (acc := []) (I.cellsOf F) (fun _ z => nomatch z) (x, c) (PySem.mem_of_lookup e)
/-- a block begins -/
theorem Inv.comp (I : Inv X pins σ H s) (F : CompFacts X scope N pick) (hf : ∀ b ∈ fp, FpOk X pins H b) (ht : ∀ b ∈ fp, ∃ o, s.heap.get? b = some o) {h₁ : Heap} {t : Nat} {m : Str → Option Value} (hn : h₁.Ns s.heap.objs.size m) (hk : ∀ b o, s.heap.get? b = some o → h₁.get? b = some o) :
    Inv (cxComp X N scope s.heap.objs.size fp s H) [] (compSt pick σ) H { s with heap := h₁, toks := t } := by
  have sub := fun {x c} e => I.clSub F (x := x) (c := c) e
  have nofp : ∀ b ∈ fp, b ≠ s.heap.objs.size := fun b hb => by
    obtain ⟨o, e⟩ := ht b hb
    exact Nat.ne_of_lt (Heap.lt_size e)
  refine ⟨⟨I.ok.mod, F.kind, I.ok.glob, I.ok.blt, Nat.le_refl _, fun x y c h1 h2 => I.ok.inj x y c (sub h1) (sub h2), fun x hx => ?_, (fun x c z => nomatch z), I.ok.hd, I.ok.frames, .inl rfl, fun b hb => ⟨nofp b hb, fun x c e => (hf b hb).2.2.2.2.1 x c (sub e)⟩, I.bs, Nat.le_trans I.ok.bsz I.sz, fun b o e hb => ?_, fun b hb z => ?_, I.stack, I.stkFree⟩,
    rfl, I.bare, Un.kept hk, ⟨m, hn, fun i x v e1 e2 e3 => ?_⟩, fun x c e => ?_, I.hok.fresh (Nat.le_refl _), fun x c e => I.freeC x c (sub e), fun p hp => (nomatch hp), I.hok.kept hk, ?_⟩
  · have hx' : (relabel scope X.env).names.lookup x = some .cell ∨ (relabel scope X.env).names.lookup x = some .free := hx
    have hm : (x, NameKind.free) ∈ scope.names := by
      rcases hx' with z | z
      · exact relabel_free z (.inl rfl) F.nocell
      · exact relabel_free z (.inr rfl) F.nocell
    obtain ⟨c, e⟩ := clOf_has (cells := X.env.cells) (acc := []) (.inl hm)
    exact lookup_has e
  · rcases (hf b hb).2.2.2.1 with z | z
    · exact I.ok.noex b o e z
    · exact absurd (Nat.lt_of_lt_of_le (Heap.lt_size e) (Nat.le_trans I.ok.bsz z)) (Nat.lt_irrefl _)
  · rcases List.mem_cons.mp (I.stkSub b z) with q | q
    · exact (hf b hb).2.1 q
    · exact (hf b hb).2.2.1 q
  · have e2' : (pick.map fun o => o.bind fun j => (σ[j]?).join)[i]? = some (some v) := e2
    rw [List.getElem?_map] at e2'
    cases q : pick[i]? with
    | none => rw [q] at e2'; cases e2'
    | some o =>
      rw [q] at e2'
      cases o with
      | none => cases e2'
      | some j =>
        obtain ⟨p1, p2, p3, p4⟩ := F.pk i x j e1 q
        have es : σ[j]? = some (some v) := by
          have e2'' : (σ[j]?).join = some v := by simpa using e2'
          cases r : σ[j]? with
          | none => rw [r] at e2''; cases e2''
          | some u => rw [r] at e2''; exact congrArg some e2''
        obtain ⟨m0, hm0, hl0⟩ := I.loc
        obtain ⟨u, ru, l⟩ := hl0 j x v p1 es (.inr (.inl p2))
        refine ⟨u, ru, .inr ⟨.inl p4, ?_⟩⟩
        rcases l with ⟨k, _⟩ | ⟨_, c, e, o, ho, hd⟩
        · rw [p2] at k; cases k
        · obtain ⟨d, ed⟩ := clOf_has (cells := X.env.cells) (acc := []) (.inl (PySem.mem_of_lookup p3))
          obtain ⟨d', ed'⟩ := lookup_has ed
          have : X.env.cells.lookup x = some d' := sub ed'
          rw [e] at this; cases this
          exact ⟨c, ed', o, hk c o ho, hd⟩
  · obtain ⟨v, o, ho, hd⟩ := I.cell x c (sub e)
    exact ⟨v, o, hk c o ho, hd⟩
  · show (pick.map _).length = N.length
    rw [List.length_map]; exact F.len
/-- a block ends -/
theorem Inv.uncomp {σ' : St} {H' : Hp} {s' : Shared} {C : Addr} {pl : List (Addr × Obj)} (I : Inv X pins σ H s) (hf : ∀ b ∈ fp, FpOk X pins H b) (J : Inv (cxComp X N scope C fp s H) pl σ' H' s') : Inv X pins σ H' s' := by
  obtain ⟨hh, g, d, t, os'⟩ := s'
  obtain rfl : os' = s.os := J.os
  exact I.call (ch := fp) J.base J.hok J.bare fun b hb => ⟨(hf b hb).2.2.2.1, (hf b hb).2.1, (hf b hb).2.2.2.2.1, (hf b hb).2.2.2.2.2⟩
end
/-! the loop -/
section
variable {prog : Program} {w : World} {A : Around} {R : Result → Shared → Prop} {s : Shared}
theorem compLoop_any {elt target iter : Expr} {ifs : List Expr} {scope : Scope} {pos : Pos} {it acc : Value} {env : Env} (J : Nat → Shared → Prop) (E' : Value → Shared → Prop) (hE : E' = notedBy (model prog w) A env fun e s' => R (.error e) s')
    (turn : ∀ n s, J n s → wpAny (model prog w) A (pyNext it) (fun r s1 => match r with
      | none => R (.ok .next) s1
      | some v => wpAny (model prog w) A (letOwnedTupleGo target it v) (fun _ sg => wpAny (model prog w) A (assign target env v) (fun _ s2 =>
          wpAny (model prog w) A (forIn ifs true fun c r => if r = true then do let ok ← isTrue c env (eval c env); pure (ForInStep.yield ok) else pure (ForInStep.yield r)) (fun ok s3 =>
            if ok = true then wpAny (model prog w) A (eval elt env) (fun x s4 => wpAny (model prog w) A (call (.builtin "list.append") [acc, x]) (fun _ s5 => ∃ m, m < n ∧ J m s5) E' s4) E' s3
            else ∃ m, m < n ∧ J m s3) E' s2) E' sg) E' s1) E' s)
    (n : Nat) (h : J n s) : codeAny (model prog w) A (.compLoop (.ListComp elt [⟨target, iter, ifs, 0⟩] scope pos) 0 it acc env) R s := by
  subst hE
  refine codeAny_loop (by rfl) J (fun n s hJ => ?_) n h
  show wpAny _ A (Sem.onRaise (compTurn (.ListComp elt [⟨target, iter, ifs, 0⟩] scope pos) 0 it acc env) fun x => (do noteFrame x env; theTreesLotGoes x)) _ _ s
  refine wpAny_noted (by
    rw [compTurn_list]
    refine wpAny_bind (wpAny_standAt (wpAny_bind (thn (turn n s hJ) fun r s1 h1 => ?_)))
    cases r with
    | none => exact wpAny_pure h1
    | some v =>
      refine wpAny_bind (thn h1 fun _ sg hg => wpAny_bind (thn hg fun _ s2 h2 => wpAny_bind (thn h2 fun ok s3 h3 => ?_)))
      cases ok with
      | false => exact wpAny_pure ⟨rfl, h3⟩
      | true => exact wpAny_bind (wpAny_bind (thn h3 fun x s4 h4 => wpAny_bind (thn h4 fun _ s5 h5 => wpAny_pure (wpAny_pure ⟨rfl, h5⟩)))))
end
/-- the tests of a comprehension -/
def PTs (X : Cx) (ifs : List Expr) (t : TT) : Prop :=
  ∀ (pins : List (Addr × Obj)) (s : Shared) (σ : St) (H : Hp) (Q : Bool → Hp → Prop), Inv X pins σ H s → t σ H Q →
    wpAny (model X.prog X.w) X.A (forIn ifs true fun c r => if r = true then do let ok ← isTrue c X.env (eval c X.env); pure (ForInStep.yield ok) else pure (ForInStep.yield r)) (TP X pins σ Q) X.xe s
def ttNil : TT := fun _ H Q => Q true H
theorem pts_nil {X : Cx} : PTs X [] ttNil := fun _ _ _ H _ I h => wpAny_tests_nil ⟨H, I, h⟩
theorem pts_one {X : Cx} {c : Expr} {t : TT} (h : PT X c t) : PTs X [c] t := fun pins s σ H Q I q => wpAny_tests_one (h pins s σ H Q I q)
/-- [elt for target in iter if ..]: D the new list, W the invariant by the turn, a measure, what D holds, the block's names -/
def tComp (wi : TI) (pick : List (Option Nat)) (g : TG) (tt : TT) (te : TE) : TE := fun σ H Q => wi σ H fun J H1 => ∀ D, H1 D = none → ∃ W : Nat → Nat → List V → St → Hp → Prop, (∃ m, W 0 m [] (compSt pick σ) (upd H1 D (.lst []))) ∧
  ∀ i m vs σ' H', W i m vs σ' H' → (J.stop i H' ∧ Q (.ref D) H') ∨ (J.go i H' ∧ ∀ x H2, J.yld i H' x H2 → g x σ' H2 fun σ2 H3 => tt σ2 H3 fun b H4 =>
    if b = true then te σ2 H4 fun v H5 => H5 D = some (.lst vs) ∧ vs.length < sizeLine ∧ ∃ m', m' < m ∧ W (i + 1) m' (vs ++ [v]) σ2 (upd H5 D (.lst (vs ++ [v]))) else ∃ m', m' < m ∧ W (i + 1) m' vs σ2 H4)
section
variable {X : Cx}
/-- the block, from the new list on -/
theorem comp_run3 {elt iter tg : Expr} {ifs : List Expr} {scope : Scope} {pos : Pos} {N : List Str} {pick : List (Option Nat)} {g : TG} {tt : TT} {te : TE} {pins : List (Addr × Obj)} {σ : St} {H1 : Hp} {s3 : Shared} {it D : Addr} {fp : List Addr} {tn : Nat → Heap → Prop} {J : It} {Q : VK} {E : Value → Shared → Prop}
    {RR : Value → Addr → Result → Shared → Prop} (hc : X.calm = true) (ok : compOk X scope N pick = true)
    (hg : ∀ C fp s H, PG (cxComp X N scope C fp s H) tg g) (ht : ∀ C fp s H, PTs (cxComp X N scope C fp s H) ifs tt) (he : ∀ C fp s H, PE (cxComp X N scope C fp s H) elt te)
    (I3 : Inv X pins σ H1 s3) (T : Turn X.prog X.w X.K tg J fp it tn) (st3 : tn 0 s3.heap) (hf3 : ∀ b ∈ fp, FpOk X pins H1 b)
    (h : ∃ W : Nat → Nat → List V → St → Hp → Prop, (∃ m, W 0 m [] (compSt pick σ) H1) ∧
      ∀ i m vs σ' H', W i m vs σ' H' → (J.stop i H' ∧ Q (.ref D) H') ∨ (J.go i H' ∧ ∀ x H2, J.yld i H' x H2 → g x σ' H2 fun σ2 H3 => tt σ2 H3 fun b H4 =>
        if b = true then te σ2 H4 fun v H5 => H5 D = some (.lst vs) ∧ vs.length < sizeLine ∧ ∃ m', m' < m ∧ W (i + 1) m' (vs ++ [v]) σ2 (upd H5 D (.lst (vs ++ [v]))) else ∃ m', m' < m ∧ W (i + 1) m' vs σ2 H4))
    (hRR : ∀ (C : Addr) (H' : Hp) (s' : Shared) (m : Str → Option Value), Inv X pins σ H' s' → s'.heap.Ns C m → H' C = none → C ≠ X.env.locals → C ∉ X.fs → X.s₀.heap.objs.size ≤ C → (∀ x c, X.env.cells.lookup x = some c → c ≠ C) → (∀ p ∈ X.pn ++ pins, p.1 ≠ C) → Q (.ref D) H' → RR (.ref D) C (.ok .next) s') :
    wpAny (model X.prog X.w) X.A (newFunctionEnv scope X.env.globals (clOf X.env.cells scope.names []) [] X.env.qual none .none (some X.env)) (fun cenv s4 =>
      codeAny (model X.prog X.w) X.A (.compStart (.ListComp elt [⟨tg, iter, ifs, 0⟩] scope pos) 0 (.ref it) (.ref D) { cenv with scope := relabel scope X.env }) (RR (.ref D) cenv.locals) s4) E s3 := by
  have F := comp_facts ok
  refine wpAny_newFunctionEnv F.nocell (by intro y hy; simp at hy) (fun h1 hn1 hs1 => ?_) F.kind
  try dsimp only at hn1 hs1 ⊢
  obtain ⟨W, ⟨m0, w0⟩, turn⟩ := h
  have old : ∀ b o, s3.heap.get? b = some o → h1.get? b = some o := fun b o e => hs1.extBut b o (Nat.ne_of_lt (Heap.lt_size e)) (Heap.get?_push_of_some _ e)
  have I4 : Inv (cxComp X N scope s3.heap.objs.size fp s3 H1) [] (compSt pick σ) H1 { s3 with heap := h1, toks := s3.toks + ([] : List (Str × Value)).length } :=
    I3.comp F hf3 (fun b hb => let ⟨o, e, _⟩ := T.obj 0 _ st3 b hb; ⟨o, e⟩) hn1 old
  have st4 : tn 0 h1 := T.keep 0 _ _ st3 fun b _ o e => old b o e
  have fr4 : ∀ b ∈ fp, H1 b = none := fun b hb => (hf3 b hb).1
  have stat : ∀ {H' : Hp}, (∀ b ∈ fp, H' b = none) → ∀ b ∈ fp, FpOk (cxComp X N scope s3.heap.objs.size fp s3 H1) [] H' b := fun hn b hb => by
    obtain ⟨o, e, _⟩ := T.obj 0 _ st3 b hb
    refine ⟨hn b hb, Nat.ne_of_lt (Heap.lt_size e), fun z => ?_, .inl hb, fun x c q => (hf3 b hb).2.2.2.2.1 x c (I3.clSub F q), fun p hp => nomatch hp⟩
    rcases List.mem_cons.mp (I3.stkSub b z) with q | q
    · exact (hf3 b hb).2.1 q
    · exact (hf3 b hb).2.2.1 q
  have cne : ∀ x c, X.env.cells.lookup x = some c → c ≠ s3.heap.objs.size := fun x c e => by
    obtain ⟨v, q⟩ := I3.cell x c e
    exact Nat.ne_of_lt q.lt
  have fin : ∀ {σ' : St} {H' : Hp} {s' : Shared} {pl : List (Addr × Obj)}, Inv (cxComp X N scope s3.heap.objs.size fp s3 H1) pl σ' H' s' → Q (.ref D) H' → RR (.ref D) s3.heap.objs.size (.ok .next) s' := fun {σ' H' s' pl} K q => by
    obtain ⟨m, hm, _⟩ := id K.loc
    exact hRR s3.heap.objs.size H' s' m (I3.uncomp hf3 K) hm K.free (Nat.ne_of_gt I3.lt) (I3.nofs (Nat.le_refl _)) I3.sz cne (fun p hp => Nat.ne_of_lt (Heap.lt_size (I3.pin p hp).1)) q
  have loop : ∀ s5 : Shared, s5 = { s3 with heap := h1, toks := s3.toks + ([] : List (Str × Value)).length } → codeAny (model X.prog X.w) X.A (.compLoop (.ListComp elt [⟨tg, iter, ifs, 0⟩] scope pos) 0 (.ref it) (.ref D) (compEnvC scope (clOf X.env.cells scope.names []) s3.heap.objs.size X.env)) (RR (.ref D) s3.heap.objs.size) s5 := by
    rintro s5 rfl
    refine compLoop_any (fun n s' => ∃ i vs σ' H', Inv (cxComp X N scope s3.heap.objs.size fp s3 H1) [] σ' H' s' ∧ tn i s'.heap ∧ (∀ b ∈ fp, H' b = none) ∧ W i n vs σ' H') _ rfl ?_ m0 ⟨0, [], _, _, I4, st4, fr4, w0⟩
    rintro n s6 ⟨i, vs, σ6, H6, I6, st6, fr6, w6⟩
    rcases turn i n vs σ6 H6 w6 with ⟨stop, q⟩ | ⟨go, step⟩
    · refine thn (T.done (cxComp X N scope s3.heap.objs.size fp s3 H1) rfl rfl rfl hc i [] s6 σ6 H6 _ I6 (stat fr6) st6 stop) fun r s7 ⟨hr, I7⟩ => ?_
      subst hr
      exact fin I7 q
    · refine thn (T.item (cxComp X N scope s3.heap.objs.size fp s3 H1) rfl rfl rfl hc i [] s6 σ6 H6 _ I6 (stat fr6) st6 go) fun r s7 ⟨u, hr, h7⟩ => ?_
      subst hr
      refine thn h7 fun _ s8 ⟨x, H8, I8, r8, y8, st8, fr8⟩ => ?_
      have I8' := I8.pinned (stat fr8) (T.obj _ _ st8)
      refine wpAny_mono (hg _ _ _ _ _ s8 σ6 H8 x u _ I8' r8 (step x H8 y8)) (fun _ s9 ⟨σ9, H9, I9, q9⟩ => ?_) fun _ _ z => z.elim
      refine wpAny_mono (ht _ _ _ _ _ s9 σ9 H9 _ I9 q9) (fun b s10 ⟨H10, I10, q10⟩ => ?_) fun _ _ z => z.elim
      have again : ∀ {H11 : Hp} {s11 : Shared} {vs' : List V} {m' : Nat}, Inv (cxComp X N scope s3.heap.objs.size fp s3 H1) ([] ++ pinsAt fp s8.heap) σ9 H11 s11 → m' < n → W (i + 1) m' vs' σ9 H11 →
          ∃ m, m < n ∧ ∃ i vs σ' H', Inv (cxComp X N scope s3.heap.objs.size fp s3 H1) [] σ' H' s11 ∧ tn i s11.heap ∧ (∀ b ∈ fp, H' b = none) ∧ W i m vs σ' H' := fun {H11 s11 vs' m'} K hm w => by
        refine ⟨m', hm, i + 1, vs', σ9, H11, K.unpinned, T.keep _ _ _ st8 fun b hb o e => (K.pin (b, o) (List.mem_append_right _ (List.mem_append_right _ (mem_pinsAt hb e)))).1, fun b hb => ?_, w⟩
        obtain ⟨o, e, _⟩ := T.obj _ _ st8 b hb
        exact (K.pin (b, o) (List.mem_append_right _ (List.mem_append_right _ (mem_pinsAt hb e)))).2.1
      cases b with
      | false =>
        rw [if_neg Bool.false_ne_true] at q10 ⊢
        obtain ⟨m', hm, w'⟩ := q10
        exact again I10 hm w'
      | true =>
        rw [if_pos rfl] at q10 ⊢
        refine wpAny_mono (he _ _ _ _ _ s10 σ9 H10 _ I10 q10) (fun y s11 ⟨v, H11, I11, r11, hD11, hz, m', hm, w'⟩ => ?_) fun _ _ z => z.elim
        refine wpAny_mono (mt_append (X := cxComp X N scope s3.heap.objs.size fp s3 H1) _ s11 σ9 H11 (.ref D) [v] (.ref D) [y] (fun r H12 => H12 = upd H11 D (.lst (vs ++ [v]))) I11 rfl (.cons r11 .nil) ⟨D, vs, v, rfl, rfl, hD11, hz, rfl⟩) (fun _ s12 ⟨_, H12, I12, _, e12⟩ => ?_) fun _ _ z => z.elim
        subst e12
        exact again I12 hm w'
  exact codeAny_compStart_list (loop _ rfl) (T.self X.A 0 _ _ _ st4 (loop _ rfl))
/-- the block, from the iterator on -/
theorem comp_run {elt iter tg : Expr} {ifs : List Expr} {scope : Scope} {pos : Pos} {N : List Str} {pick : List (Option Nat)} {g : TG} {tt : TT} {te : TE} {pins : List (Addr × Obj)} {σ : St} {H1 : Hp} {s2 : Shared} {it : Addr} {fp : List Addr} {tn : Nat → Heap → Prop} {J : It} {Q : VK} {E : Value → Shared → Prop}
    {RR : Value → Addr → Result → Shared → Prop} (hc : X.calm = true) (ok : compOk X scope N pick = true)
    (hg : ∀ C fp s H, PG (cxComp X N scope C fp s H) tg g) (ht : ∀ C fp s H, PTs (cxComp X N scope C fp s H) ifs tt) (he : ∀ C fp s H, PE (cxComp X N scope C fp s H) elt te)
    (I : Inv X pins σ H1 s2) (T : Turn X.prog X.w X.K tg J fp it tn) (st : tn 0 s2.heap) (hf : ∀ b ∈ fp, FpOk X pins H1 b)
    (h : ∀ D, H1 D = none → ∃ W : Nat → Nat → List V → St → Hp → Prop, (∃ m, W 0 m [] (compSt pick σ) (upd H1 D (.lst []))) ∧
      ∀ i m vs σ' H', W i m vs σ' H' → (J.stop i H' ∧ Q (.ref D) H') ∨ (J.go i H' ∧ ∀ x H2, J.yld i H' x H2 → g x σ' H2 fun σ2 H3 => tt σ2 H3 fun b H4 =>
        if b = true then te σ2 H4 fun v H5 => H5 D = some (.lst vs) ∧ vs.length < sizeLine ∧ ∃ m', m' < m ∧ W (i + 1) m' (vs ++ [v]) σ2 (upd H5 D (.lst (vs ++ [v]))) else ∃ m', m' < m ∧ W (i + 1) m' vs σ2 H4))
    (hRR : ∀ (D C : Addr) (H' : Hp) (s' : Shared) (m : Str → Option Value), Inv X pins σ H' s' → s'.heap.Ns C m → H' C = none → C ≠ X.env.locals → C ∉ X.fs → X.s₀.heap.objs.size ≤ C → (∀ x c, X.env.cells.lookup x = some c → c ≠ C) → (∀ p ∈ X.pn ++ pins, p.1 ≠ C) → Q (.ref D) H' → RR (.ref D) C (.ok .next) s') :
    wpAny (model X.prog X.w) X.A (newList []) (fun acc s3 => wpAny (model X.prog X.w) X.A (newFunctionEnv scope X.env.globals (clOf X.env.cells scope.names []) [] X.env.qual none .none (some X.env)) (fun cenv s4 =>
      codeAny (model X.prog X.w) X.A (.compStart (.ListComp elt [⟨tg, iter, ifs, 0⟩] scope pos) 0 (.ref it) acc { cenv with scope := relabel scope X.env }) (RR acc cenv.locals) s4) E s3) E s2 := by
  have hfD : ∀ b ∈ fp, b ≠ s2.heap.objs.size := fun b hb => by
    obtain ⟨o, e, _⟩ := T.obj 0 _ st b hb
    exact Nat.ne_of_lt (Heap.lt_size e)
  refine wpAny_newObj_type (comp_run3 (D := s2.heap.objs.size) (Q := Q) hc ok hg ht he (I.lnew (t' := s2.toks) (ys := []) (its := []) .nil (Nat.zero_le _)) T (T.keep 0 _ _ st fun b _ o e => Heap.get?_push_of_some _ e) (fun b hb => ⟨by rw [upd_ne (hfD b hb)]; exact (hf b hb).1, (hf b hb).2⟩) (h _ I.fresh) fun C => hRR _ C)
theorem pe_comp {elt iter tg : Expr} {ifs : List Expr} {scope : Scope} {pos : Pos} (N : List Str) (pick : List (Option Nat)) {wi : TI} {g : TG} {tt : TT} {te : TE} (hc : X.calm = true) (ok : compOk X scope N pick = true) (hi : PI X tg iter wi)
    (hg : ∀ C fp s H, PG (cxComp X N scope C fp s H) tg g) (ht : ∀ C fp s H, PTs (cxComp X N scope C fp s H) ifs tt) (he : ∀ C fp s H, PE (cxComp X N scope C fp s H) elt te) (hs : ∀ x, foldedSetIterable iter X.env x = pure x) :
    PE X (.ListComp elt [⟨tg, iter, ifs, 0⟩] scope pos) (tComp wi pick g tt te) := by
  intro pins s σ H Q I h
  have F := comp_facts ok
  rw [eval_ListComp]
  refine wpAny_comprehension_free (use := none) rfl hs (closureFor_cl (I.cellsOf F)) F.kind F.loc (thn (hi pins s σ H _ I h) fun v s1 h1 => thn h1 fun itv s2 h2 => ?_)
  obtain ⟨it, fp, tn, J, H2, e, I2, T, st2, f2, q2⟩ := h2
  subst e
  refine comp_run (Q := Q) (RR := fun acc C => compPost (model X.prog X.w) X.A X.xe none (EP X pins σ Q) acc C) hc ok hg ht he I2 T st2 f2 q2 ?_
  intro D C H' s' m I' hm c0 c1 c2 c3 c4 c5 q
  exact ⟨m, hm, fun h' hs' => ⟨.ref D, H', I'.turned (t' := s'.toks) (fun b o hb e => hs'.extBut b o hb e) c0 c1 (.inr c3) c4 c5, rfl, q⟩⟩
/-- y = [elt for ..] -/
def tSetC (t : TE) (gy : TG) : TS := fun D σ H => t σ H fun v H1 => gy v σ H1 D.nx
theorem ps_comp {elt iter tg : Expr} {ifs : List Expr} {scope : Scope} {pos py spos : Pos} {y : Str} (N : List Str) (pick : List (Option Nat)) {wi : TI} {g gy : TG} {tt : TT} {te : TE} (hc : X.calm = true) (ok : compOk X scope N pick = true) (hi : PI X tg iter wi)
    (hg : ∀ C fp s H, PG (cxComp X N scope C fp s H) tg g) (ht : ∀ C fp s H, PTs (cxComp X N scope C fp s H) ifs tt) (he : ∀ C fp s H, PE (cxComp X N scope C fp s H) elt te) (hgy : PG X (.Name y py) gy)
    (hsw : swapsWith (.ListComp elt [⟨tg, iter, ifs, 0⟩] scope pos) (some (.Name y py)) spos.line X.env = pure true) (hs : ∀ x, foldedSetIterable iter X.env x = pure x) :
    PS X (.Assign [.Name y py] (.ListComp elt [⟨tg, iter, ifs, 0⟩] scope pos) spos) (tSetC (tComp wi pick g tt te) gy) := by
  intro pins s σ H Dn I h
  have F := comp_facts ok
  rw [exec_Assign_Name_used _ _ _ _ hsw]
  refine wpAny_bind (wpAny_standAt (wpAny_bind ?_))
  show wpAny _ X.A (comprehension (.ListComp elt [⟨tg, iter, ifs, 0⟩] scope pos) scope X.env _ (newList []) false (eval iter X.env) (some (assign (.Name y py) X.env)) >>= _) _ _ s
  refine wpAny_bind (thn (wpAny_comprehension_free (use := some (assign (.Name y py) X.env)) (Q := fun _ s' => SP X pins Dn .next s') rfl hs (closureFor_cl (I.cellsOf F)) F.kind F.loc (thn (hi pins s σ H _ I h) fun v s1 h1 => thn h1 fun itv s2 h2 => ?_)) fun _ s' hq => wpAny_pure (wpAny_pure hq))
  obtain ⟨it, fp, tn, J, H2, e, I2, T, st2, f2, q2⟩ := h2
  subst e
  refine comp_run (Q := fun v H1 => gy v σ H1 Dn.nx) (RR := fun acc C => compPost (model X.prog X.w) X.A X.xe (some (assign (.Name y py) X.env)) (fun _ s' => SP X pins Dn .next s') acc C) hc ok hg ht he I2 T st2 f2 q2 ?_
  intro D C H' s' m I' hm c0 c1 c2 c3 c4 c5 q
  obtain ⟨o, es, ep, ho, hd, hr⟩ := id hm
  have Ip : Inv X (pins ++ [(C, o)]) σ H' s' := I'.pins_of fun p hp => by
    rcases List.mem_append.mp hp with z | z
    · exact I'.pin p (List.mem_append_right _ z)
    · have z' : p = (C, o) := by simpa using z
      subst z'
      exact ⟨ho, c0, c1, c2, fun v e => by rw [hd] at e; cases e⟩
  show wpAny _ X.A (assign (.Name y py) X.env (.ref D)) _ X.xe s'
  refine thn (hgy _ s' σ H' (.ref D) (.ref D) _ Ip rfl q) fun _ s9 ⟨σ9, H9, I9, q9⟩ => ?_
  have pc := I9.pin (C, o) (List.mem_append_right _ (List.mem_append_right _ (by simp)))
  refine ⟨m, ⟨o, es, ep, pc.1, hd, hr⟩, fun h' hs' => ⟨σ9, H9, ?_, q9⟩⟩
  exact (I9.unpinned (pins := pins)).turned (t' := s9.toks) (fun b o hb e => hs'.extBut b o hb e) pc.2.1 c1 (.inr c3) c4 c5
end
end L2

/-! ### zip of three lists; enumerate of a list -/
namespace Zip3
open PySem PySem.Spec PyProof.Rows
abbrev Trip (h : Heap) (T : Addr) (a b c : Value) : Prop := h.get? T = some { cls := .type "tuple", data := .seq #[a, b, c] }
theorem ne_lt {a b : Nat} (h : a < b) : a ≠ b := Nat.ne_of_lt h
theorem tc3 (a b c : Value) : checkTypeCall "zip" ⟨[a, b, c], []⟩ = pure () := by kernel_rfl
theorem nc3 (a b c : Value) : checkBuiltinCall "zip.__new__" ⟨[.type "zip", a, b, c], []⟩ = pure () := by kernel_rfl
theorem init4 (a b c d : Value) : argsOk "object.__init__" ⟨[a, b, c, d], []⟩ := by
  unfold argsOk
  rw [signature?_of (id := "object.__init__") (n := "__init__".toList.reverse) (o := "object".toList.reverse) (by kernel_rfl) F.owner_object]
  kernel_rfl
section
variable {prog : Program} {w : World} {A : Around} {E : Value → Shared → Prop} {s : Shared}
theorem put3 {T : Addr} {a b c x : Value} {k : Nat} {Q : Unit → Shared → Prop} (hT : Trip s.heap T a b c)
    (h : ∀ h', h'.get? T = some { cls := .type "tuple", data := .seq ((#[a, b, c] : Array Value).setIfInBounds k x) } → Heap.SameBut T s.heap h' → Q () { s with heap := h' }) : wpAny (model prog w) A (updateSeq T (·.setIfInBounds k x)) Q E s := by
  refine wpAny_updateSeq hT (by rfl) (h _ (by rw [Heap.get?_update_self _ hT (by rfl)]; simp [Obj.mapSeq]) (Heap.SameBut.update ..))
theorem next3 {n l1 l2 l3 k : Nat} {xs ys zs : Array Value} {x y z a b c : Value} {Q : Value → Shared → Prop} (b1 : l1 < n) (b2 : l2 < n) (b3 : l3 < n)
    (hZ : IsZip s.heap (n + 5) (n + 3) (n + 4) .none) (hI : Trip s.heap (n + 3) (.ref n) (.ref (n + 1)) (.ref (n + 2))) (hO : Trip s.heap (n + 4) a b c)
    (h1 : s.heap.IsListIter n l1 k) (h2 : s.heap.IsListIter (n + 1) l2 k) (h3 : s.heap.IsListIter (n + 2) l3 k) (g1 : s.heap.IsList l1 xs) (g2 : s.heap.IsList l2 ys) (g3 : s.heap.IsList l3 zs) (e1 : xs[k]? = some x) (e2 : ys[k]? = some y) (e3 : zs[k]? = some z)
    (hQ : ∀ h', IsZip h' (n + 5) (n + 3) (n + 4) (rawInt s.heap.objs.size) → Trip h' (n + 4) x y z → h'.IsListIter n l1 (k + 1) → h'.IsListIter (n + 1) l2 (k + 1) → h'.IsListIter (n + 2) l3 (k + 1) → Trip h' s.heap.objs.size x y z → h'.objs.size = s.heap.objs.size + 1 →
      (∀ d o, d ≠ n + 5 → d ≠ n + 4 → d ≠ n → d ≠ n + 1 → d ≠ n + 2 → s.heap.get? d = some o → h'.get? d = some o) → Q (.ref s.heap.objs.size) { s with heap := h' }) :
    wpAny (model prog w) A (Builtin.«zip.__next__» ⟨[.ref (n + 5)], []⟩) (fun fin s' => ∃ v, fin = .done (.ret v) ∧ Q v s') E s := by
  have lt : ∀ i : Nat, i < 5 → n + i ≠ n + 5 := fun i hi => ne_lt (by omega)
  have ap : ∀ i j : Nat, i ≠ j → n + i ≠ n + j := fun i j h => by omega
  have al : ∀ (l i : Nat), l < n → l ≠ n + i := fun l i h => ne_lt (by omega)
  show wpAny _ _ (field (.ref (n + 5)) 2 >>= _) _ _ _
  refine wpAny_bind (wpAny_field hZ (by rfl) (x := .bool false) (by rfl) ?_)
  show wpAny _ _ (field (.ref (n + 5)) 3 >>= _) _ _ _
  refine wpAny_bind (wpAny_field hZ (by rfl) (x := .ref (n + 3)) (by rfl) (wpAny_bind (wpAny_seqItems hI (by rfl) ?_)))
  show wpAny _ _ (Builtin.SmallTypes.ownedTupleIsFree (.ref (n + 5)) >>= _) _ _ _
  refine wpAny_bind (by
    unfold Builtin.SmallTypes.ownedTupleIsFree
    refine wpAny_bind (wpAny_field hZ (by rfl) (x := .none) (by rfl) (wpAny_pure ?_))
    simp only [if_true]
    refine wpAny_bind (wpAny_rule (wpAny_bind (wpAny_field hZ (by rfl) (x := .ref (n + 4)) (by rfl) (wpAny_bind (wpAny_setField_rec hZ (by simp) fun u1 z1 t1 => ?_)))))
    replace z1 : IsZip u1 (n + 5) (n + 3) (n + 4) .ellipsis := z1
    refine wpAny_bind (by
      simp only [List.zipIdx_cons, List.zipIdx_nil, List.forIn_cons, List.forIn_nil]
      refine wpAny_bind (wpAny_bind (wpAny_onRaise (by
        show wpAny _ _ (Builtin.SmallTypes.nextOf (.ref n) >>= _) _ _ _
        refine wpAny_bind (wpAny_nextOf_list_item (h1.extBut t1.extBut (lt 0 (by decide))) (g1.extBut t1.extBut (al _ _ b1)) e1 fun u2 q2 t2 => wpAny_pure ?_)
        have o2 : Trip u2 (n + 4) a b c := t2.extBut _ _ (ap 4 0 (by decide)) (t1.extBut _ _ (lt 4 (by decide)) hO)
        refine wpAny_bind (wpAny_seqItems o2 (by rfl) (wpAny_bind (put3 o2 fun u3 o3 t3 => wpAny_bind (wpAny_letGo (wpAny_pure ?_)))))
        replace o3 : Trip u3 (n + 4) x b c := o3
        refine wpAny_bind (wpAny_bind (wpAny_onRaise (by
          show wpAny _ _ (Builtin.SmallTypes.nextOf (.ref (n + 1)) >>= _) _ _ _
          refine wpAny_bind (wpAny_nextOf_list_item (((h2.extBut t1.extBut (lt 1 (by decide))).extBut t2.extBut (ap 1 0 (by decide))).extBut t3.extBut (ap 1 4 (by decide))) (((g2.extBut t1.extBut (al _ _ b2)).extBut t2.extBut (al _ 0 b2)).extBut t3.extBut (al _ _ b2)) e2 fun u4 q4 t4 => wpAny_pure ?_)
          have o4 : Trip u4 (n + 4) x b c := t4.extBut _ _ (ap 4 1 (by decide)) o3
          refine wpAny_bind (wpAny_seqItems o4 (by rfl) (wpAny_bind (put3 o4 fun u5 o5 t5 => wpAny_bind (wpAny_letGo (wpAny_pure ?_)))))
          replace o5 : Trip u5 (n + 4) x y c := o5
          refine wpAny_bind (wpAny_bind (wpAny_onRaise (by
            show wpAny _ _ (Builtin.SmallTypes.nextOf (.ref (n + 2)) >>= _) _ _ _
            refine wpAny_bind (wpAny_nextOf_list_item (((((h3.extBut t1.extBut (lt 2 (by decide))).extBut t2.extBut (ap 2 0 (by decide))).extBut t3.extBut (ap 2 4 (by decide))).extBut t4.extBut (ap 2 1 (by decide))).extBut t5.extBut (ap 2 4 (by decide)))
              (((((g3.extBut t1.extBut (al _ _ b3)).extBut t2.extBut (al _ 0 b3)).extBut t3.extBut (al _ _ b3)).extBut t4.extBut (al _ _ b3)).extBut t5.extBut (al _ _ b3)) e3 fun u6 q6 t6 => wpAny_pure ?_)
            have o6 : Trip u6 (n + 4) x y c := t6.extBut _ _ (ap 4 2 (by decide)) o5
            refine wpAny_bind (wpAny_seqItems o6 (by rfl) (wpAny_bind (put3 o6 fun u7 o7 t7 => wpAny_bind (wpAny_letGo (wpAny_pure (wpAny_pure ?_))))))
            replace o7 : Trip u7 (n + 4) x y z := o7
            have keep : ∀ d o, d ≠ n + 5 → d ≠ n + 4 → d ≠ n → d ≠ n + 1 → d ≠ n + 2 → s.heap.get? d = some o → u7.get? d = some o := fun d o c1 c2 c3 c4 c5 e =>
              t7.extBut _ _ c2 (t6.extBut _ _ c5 (t5.extBut _ _ c2 (t4.extBut _ _ c4 (t3.extBut _ _ c2 (t2.extBut _ _ c3 (t1.extBut _ _ c1 e))))))
            have sz : u7.objs.size = s.heap.objs.size := by rw [t7.1, t6.1, t5.1, t4.1, t3.1, t2.1, t1.1]
            have z7 : IsZip u7 (n + 5) (n + 3) (n + 4) .ellipsis := t7.extBut _ _ (ap 5 4 (by decide)) (t6.extBut _ _ (ap 5 2 (by decide)) (t5.extBut _ _ (ap 5 4 (by decide)) (t4.extBut _ _ (ap 5 1 (by decide)) (t3.extBut _ _ (ap 5 4 (by decide)) (t2.extBut _ _ (ap 5 0 (by decide)) z1)))))
            have p1 : u7.IsListIter n l1 (k + 1) := ((((q2.extBut t3.extBut (ap 0 4 (by decide))).extBut t4.extBut (ap 0 1 (by decide))).extBut t5.extBut (ap 0 4 (by decide))).extBut t6.extBut (ap 0 2 (by decide))).extBut t7.extBut (ap 0 4 (by decide))
            have p2 : u7.IsListIter (n + 1) l2 (k + 1) := ((q4.extBut t5.extBut (ap 1 4 (by decide))).extBut t6.extBut (ap 1 2 (by decide))).extBut t7.extBut (ap 1 4 (by decide))
            have p3 : u7.IsListIter (n + 2) l3 (k + 1) := q6.extBut t7.extBut (ap 2 4 (by decide))
            have zl : n + 5 < u7.objs.size := Heap.lt_size z7
            refine wpAny_bind (wpAny_seqItems o7 (by rfl) (wpAny_bind (wpAny_newTuple ?_)))
            show wpAny _ _ (Builtin.SmallTypes.ownedTupleHandOut (.ref (n + 5)) (.ref u7.objs.size) >>= _) _ _ _
            refine wpAny_bind (by
              unfold Builtin.SmallTypes.ownedTupleHandOut
              have z8 : IsZip (u7.push { cls := .type "tuple", data := .seq #[x, y, z] }) (n + 5) (n + 3) (n + 4) .ellipsis := Heap.get?_push_of_some _ z7
              refine wpAny_bind (wpAny_setField_rec z8 (by simp) fun u9 z9 t9 => ?_)
              replace z9 : IsZip u9 (n + 5) (n + 3) (n + 4) (rawInt u7.objs.size) := z9
              refine wpAny_setField_rec z9 (by simp) fun v1 z10 t10 => ?_
              replace z10 : IsZip v1 (n + 5) (n + 3) (n + 4) (rawInt u7.objs.size) := z10
              have up : ∀ d o, d ≠ n + 5 → u7.get? d = some o → v1.get? d = some o := fun d o c1 e => t10.extBut _ _ c1 (t9.extBut _ _ c1 (Heap.get?_push_of_some _ e))
              have hT : Trip v1 u7.objs.size x y z := t10.extBut _ _ (Nat.ne_of_gt zl) (t9.extBut _ _ (Nat.ne_of_gt zl) (Heap.get?_push_size _ rfl))
              have sz10 : v1.objs.size = u7.objs.size + 1 := by rw [t10.1, t9.1, Heap.size_push]
              rw [sz] at z10 hT sz10
              refine wpAny_pure ⟨_, rfl, ?_⟩
              show Q (.ref u7.objs.size) _
              rw [sz]
              exact hQ v1 z10 (up _ _ (ap 4 5 (by decide)) o7) (p1.at fun o e => up _ o (ap 0 5 (by decide)) e) (p2.at fun o e => up _ o (ap 1 5 (by decide)) e) (p3.at fun o e => up _ o (ap 2 5 (by decide)) e) hT sz10 fun d o c1 c2 c3 c4 c5 e => up d o c1 (keep d o c1 c2 c3 c4 c5 e)))))))))))))
theorem end3 {n l1 k : Nat} {xs : Array Value} {a b c : Value} {Q : Fin → Shared → Prop} (hh : A.handled = none) (b1 : l1 < n)
    (hZ : IsZip s.heap (n + 5) (n + 3) (n + 4) .none) (hI : Trip s.heap (n + 3) (.ref n) (.ref (n + 1)) (.ref (n + 2))) (hO : Trip s.heap (n + 4) a b c) (h1 : s.heap.IsListIter n l1 k) (g1 : s.heap.IsList l1 xs) (e1 : xs[k]? = none)
    (hE : ∀ h' e, (∀ d o, d ≠ n + 5 → d ≠ n → s.heap.get? d = some o → h'.get? d = some o) → (∃ o, h'.get? e = some o ∧ o.cls = .type "StopIteration") → E (.ref e) { s with heap := h' }) :
    wpAny (model prog w) A (Builtin.«zip.__next__» ⟨[.ref (n + 5)], []⟩) Q E s := by
  have n5 : n ≠ n + 5 := ne_lt (by omega)
  show wpAny _ _ (field (.ref (n + 5)) 2 >>= _) _ _ _
  refine wpAny_bind (wpAny_field hZ (by rfl) (x := .bool false) (by rfl) ?_)
  show wpAny _ _ (field (.ref (n + 5)) 3 >>= _) _ _ _
  refine wpAny_bind (wpAny_field hZ (by rfl) (x := .ref (n + 3)) (by rfl) (wpAny_bind (wpAny_seqItems hI (by rfl) ?_)))
  show wpAny _ _ (Builtin.SmallTypes.ownedTupleIsFree (.ref (n + 5)) >>= _) _ _ _
  refine wpAny_bind (by
    unfold Builtin.SmallTypes.ownedTupleIsFree
    refine wpAny_bind (wpAny_field hZ (by rfl) (x := .none) (by rfl) (wpAny_pure ?_))
    simp only [if_true]
    refine wpAny_bind (wpAny_rule (wpAny_bind (wpAny_field hZ (by rfl) (x := .ref (n + 4)) (by rfl) (wpAny_bind (wpAny_setField_rec hZ (by simp) fun u1 z1 t1 => ?_)))))
    replace z1 : IsZip u1 (n + 5) (n + 3) (n + 4) .ellipsis := z1
    refine wpAny_bind (by
      simp only [List.zipIdx_cons, List.zipIdx_nil, List.forIn_cons, List.forIn_nil]
      refine wpAny_bind (wpAny_bind (wpAny_onRaise (by
        show wpAny _ _ (Builtin.SmallTypes.nextOf (.ref n) >>= _) _ _ _
        refine wpAny_bind (wpAny_nextOf_list_end hh (h1.extBut t1.extBut n5) (g1.extBut t1.extBut (ne_lt (by omega))) e1 fun u2 e t2 he => ?_)
        obtain ⟨oe, hoe, hce⟩ := he
        have z2 : IsZip u2 (n + 5) (n + 3) (n + 4) .ellipsis := t2 _ _ (Ne.symm n5) z1
        have ez : e ≠ n + 5 := fun q => by subst q; rw [z2] at hoe; cases hoe; simp at hce
        exact wpAny_setField_rec z2 (by simp) fun u3 _ t3 => hE u3 e (fun d o c1 c3 q => t3.extBut _ _ c1 (t2 _ _ c3 (t1.extBut _ _ c1 q))) ⟨oe, t3.extBut _ _ ez hoe, hce⟩)))))
theorem pyNext3 {n l1 l2 l3 k : Nat} {xs ys zs : Array Value} {x y z a b c : Value} {Q : Option Value → Shared → Prop} (b1 : l1 < n) (b2 : l2 < n) (b3 : l3 < n)
    (hZ : IsZip s.heap (n + 5) (n + 3) (n + 4) .none) (hI : Trip s.heap (n + 3) (.ref n) (.ref (n + 1)) (.ref (n + 2))) (hO : Trip s.heap (n + 4) a b c)
    (h1 : s.heap.IsListIter n l1 k) (h2 : s.heap.IsListIter (n + 1) l2 k) (h3 : s.heap.IsListIter (n + 2) l3 k) (g1 : s.heap.IsList l1 xs) (g2 : s.heap.IsList l2 ys) (g3 : s.heap.IsList l3 zs) (e1 : xs[k]? = some x) (e2 : ys[k]? = some y) (e3 : zs[k]? = some z)
    (hQ : ∀ h', IsZip h' (n + 5) (n + 3) (n + 4) (rawInt s.heap.objs.size) → Trip h' (n + 4) x y z → h'.IsListIter n l1 (k + 1) → h'.IsListIter (n + 1) l2 (k + 1) → h'.IsListIter (n + 2) l3 (k + 1) → Trip h' s.heap.objs.size x y z → h'.objs.size = s.heap.objs.size + 1 →
      (∀ d o, d ≠ n + 5 → d ≠ n + 4 → d ≠ n → d ≠ n + 1 → d ≠ n + 2 → s.heap.get? d = some o → h'.get? d = some o) → Q (some (.ref s.heap.objs.size)) { s with heap := h' }) : wpAny (model prog w) A (pyNext (.ref (n + 5))) Q E s := by
  have ty : s.TypeIs (.ref (n + 5)) "zip" := ⟨_, hZ, rfl⟩
  unfold pyNext
  exact wpAny_bind (wpAny_attempt (wpAny_callSpecial?_slot (name := Str.ofString "__next__") ty F.slot_zip_next (wpAny_call_entry F.slot_zip_next ty F.entry_zip_next (next3 b1 b2 b3 hZ hI hO h1 h2 h3 g1 g2 g3 e1 e2 e3 fun h' a1 a2 a3 a4 a5 a6 a7 a8 => wpAny_pure (hQ h' a1 a2 a3 a4 a5 a6 a7 a8)) (F.args_zip_next_1 _))))
theorem pyEnd3 {n l1 k : Nat} {xs : Array Value} {a b c : Value} {Q : Option Value → Shared → Prop} (hh : A.handled = none) (b1 : l1 < n)
    (hZ : IsZip s.heap (n + 5) (n + 3) (n + 4) .none) (hI : Trip s.heap (n + 3) (.ref n) (.ref (n + 1)) (.ref (n + 2))) (hO : Trip s.heap (n + 4) a b c) (h1 : s.heap.IsListIter n l1 k) (g1 : s.heap.IsList l1 xs) (e1 : xs[k]? = none)
    (hQ : ∀ h', (∀ d o, d ≠ n + 5 → d ≠ n → s.heap.get? d = some o → h'.get? d = some o) → Q none { s with heap := h' }) : wpAny (model prog w) A (pyNext (.ref (n + 5))) Q E s := by
  have ty : s.TypeIs (.ref (n + 5)) "zip" := ⟨_, hZ, rfl⟩
  unfold pyNext
  refine wpAny_bind (wpAny_attempt (wpAny_callSpecial?_slot (name := Str.ofString "__next__") ty F.slot_zip_next (wpAny_call_entry F.slot_zip_next ty F.entry_zip_next (end3 hh b1 hZ hI hO h1 g1 e1 fun h' e hk he => ?_) (F.args_zip_next_1 _))))
  obtain ⟨o, ho, hc⟩ := he
  exact wpAny_bind (wpAny_isInstance (T := "StopIteration") (b := true) ⟨o, ho, hc⟩ isSubtype_stop (wpAny_pure (hQ _ hk)))
end
abbrev g1 (h : Heap) (l : Addr) : Heap := h.push { cls := .type "list_iterator", data := .fields #[.ref l, .int 0 0] }
abbrev g4 (h : Heap) (l1 l2 l3 : Addr) : Heap := (g1 (g1 (g1 h l1) l2) l3).push { cls := .type "tuple", data := .seq #[.ref h.objs.size, .ref (g1 h l1).objs.size, .ref (g1 (g1 h l1) l2).objs.size] }
abbrev g5 (h : Heap) (l1 l2 l3 : Addr) : Heap := (g4 h l1 l2 l3).push { cls := .type "tuple", data := .seq #[.none, .none, .none] }
abbrev g6 (h : Heap) (l1 l2 l3 : Addr) : Heap := (g5 h l1 l2 l3).push { cls := .type "zip", data := .fields #[.none, .bool false, .bool false, .ref (g1 (g1 (g1 h l1) l2) l3).objs.size, .ref (g4 h l1 l2 l3).objs.size] }
theorem meets3 (l1 l2 l3 : Addr) (xs ys zs : Array Value) :
    Meets (Builtin.«zip.__new__» ⟨[.type "zip", .ref l1, .ref l2, .ref l3], []⟩) (fun _ R s => s.heap.IsList l1 xs ∧ s.heap.IsList l2 ys ∧ s.heap.IsList l3 zs ∧ R (.ok (.ret (.ref (g5 s.heap l1 l2 l3).objs.size))) { s with heap := g6 s.heap l1 l2 l3 }) :=
  .of_wp fun prog w A R s h => by
    obtain ⟨hp, g, d, tk, os⟩ := s
    obtain ⟨a1, a2, a3, h⟩ := h
    have hsub := sub_zip
    have c1 : Heap.IsList (Shared.heap ⟨hp, g, d, tk, os⟩) l1 xs := a1
    have c2 : Heap.IsList (Shared.heap ⟨g1 hp l1, g, d, tk, os⟩) l2 ys := Heap.IsList.push a2 _
    have c3 : Heap.IsList (Shared.heap ⟨g1 (g1 hp l1) l2, g, d, tk, os⟩) l3 zs := Heap.IsList.push (Heap.IsList.push a3 _) _
    wp_walk using wpAny_pyIter_list c1, wpAny_pyIter_list c2, wpAny_pyIter_list c3
    exact ⟨_, rfl, h⟩
section
variable {prog : Program} {w : World} {A : Around} {E : Value → Shared → Prop} {s : Shared}
theorem call3 {l1 l2 l3 : Addr} {xs ys zs : Array Value} {Q : Value → Shared → Prop} (a1 : s.heap.IsList l1 xs) (a2 : s.heap.IsList l2 ys) (a3 : s.heap.IsList l3 zs)
    (h : ∀ h' n, n = s.heap.objs.size → IsZip h' (n + 5) (n + 3) (n + 4) .none → Trip h' (n + 3) (.ref n) (.ref (n + 1)) (.ref (n + 2)) → Trip h' (n + 4) .none .none .none → h'.IsListIter n l1 0 → h'.IsListIter (n + 1) l2 0 → h'.IsListIter (n + 2) l3 0 → h'.objs.size = n + 6 →
      (∀ c o, s.heap.get? c = some o → h'.get? c = some o) → Q (.ref (n + 5)) { s with heap := h' }) : wpAny (model prog w) A (call (.type "zip") [.ref l1, .ref l2, .ref l3]) Q E s := by
  refine callType_new F.called_zip (by decide) (tc3 _ _ _) (nc3 _ _ _) (fun obj => init4 obj _ _ _) F.entry_zip_new (meets3 l1 l2 l3 xs ys zs) ⟨a1, a2, a3, ?_⟩
  have z1 : (g1 s.heap l1).objs.size = s.heap.objs.size + 1 := Heap.size_push ..
  have z2 : (g1 (g1 s.heap l1) l2).objs.size = s.heap.objs.size + 2 := by rw [Heap.size_push, z1]
  have z3 : (g1 (g1 (g1 s.heap l1) l2) l3).objs.size = s.heap.objs.size + 3 := by rw [Heap.size_push, z2]
  have z4 : (g4 s.heap l1 l2 l3).objs.size = s.heap.objs.size + 4 := by rw [Heap.size_push, z3]
  have z5 : (g5 s.heap l1 l2 l3).objs.size = s.heap.objs.size + 5 := by rw [Heap.size_push, z4]
  have z6 : (g6 s.heap l1 l2 l3).objs.size = s.heap.objs.size + 6 := by rw [Heap.size_push, z5]
  have p6 : (g6 s.heap l1 l2 l3).get? (g5 s.heap l1 l2 l3).objs.size = some _ := Heap.get?_push_size _ rfl
  have p5 : (g6 s.heap l1 l2 l3).get? (g4 s.heap l1 l2 l3).objs.size = some _ := Heap.get?_push_of_some _ (Heap.get?_push_size _ rfl)
  have p4 : (g6 s.heap l1 l2 l3).get? (g1 (g1 (g1 s.heap l1) l2) l3).objs.size = some _ := Heap.get?_push_of_some _ (Heap.get?_push_of_some _ (Heap.get?_push_size _ rfl))
  have p3 : (g6 s.heap l1 l2 l3).get? (g1 (g1 s.heap l1) l2).objs.size = some _ := Heap.get?_push_of_some _ (Heap.get?_push_of_some _ (Heap.get?_push_of_some _ (Heap.get?_push_size _ rfl)))
  have p2 : (g6 s.heap l1 l2 l3).get? (g1 s.heap l1).objs.size = some _ := Heap.get?_push_of_some _ (Heap.get?_push_of_some _ (Heap.get?_push_of_some _ (Heap.get?_push_of_some _ (Heap.get?_push_size _ rfl))))
  have p1 : (g6 s.heap l1 l2 l3).get? s.heap.objs.size = some _ := Heap.get?_push_of_some _ (Heap.get?_push_of_some _ (Heap.get?_push_of_some _ (Heap.get?_push_of_some _ (Heap.get?_push_of_some _ (Heap.get?_push_size _ rfl)))))
  rw [z3, z4, z5] at p6
  rw [z4] at p5
  rw [z1, z2, z3] at p4
  rw [z2] at p3
  rw [z1] at p2
  show _ ∧ _
  rw [z5]
  exact ⟨⟨_, p6, rfl⟩, h _ _ rfl p6 p4 p5 ⟨_, p1, rfl, rfl⟩ ⟨_, p2, rfl, rfl⟩ ⟨_, p3, rfl, rfl⟩ z6 fun c o x =>
    Heap.get?_push_of_some _ (Heap.get?_push_of_some _ (Heap.get?_push_of_some _ (Heap.get?_push_of_some _ (Heap.get?_push_of_some _ (Heap.get?_push_of_some _ x)))))⟩
end
end Zip3
namespace L2
open PySem PySem.Spec PyProof.Rows
section
variable {X : Cx} {pins : List (Addr × Obj)} {σ : St} {H : Hp} {s : Shared}
/-- several untracked records of ours have turned -/
theorem Inv.turnedL {h' : Heap} {t' : Nat} {ch : List Addr} (I : Inv X pins σ H s) (k : ∀ b o, b ∉ ch → s.heap.get? b = some o → h'.get? b = some o) (hf : ∀ b ∈ ch, FpOk X pins H b) : Inv X pins σ H { s with heap := h', toks := t' } := by
  refine I.step (g' := s.gens) (d' := s.drawn) (ch := ch) (fun b hb => ⟨(hf b hb).2.2.2.1, (hf b hb).2.1, (hf b hb).2.2.2.2.1, (hf b hb).2.2.2.2.2⟩) (fun b o _ _ hc e _ => k b o hc e) (fun b o _ _ hc e _ => ⟨o.slots, k b o hc e⟩) (fun _ _ _ _ n => n)
    (fun b o hc e => ⟨o, k b o hc e⟩) (fun _ _ e => e) (fun _ _ _ e => e) (fun b ps e => ⟨#[], by rw [e]; simp⟩) (fun m hm => ?_) (fun b u e => ?_) I.bare
  · obtain ⟨o, es, ep, ho, r⟩ := hm
    exact ⟨o, es, ep, k _ o (fun z => (hf _ z).2.1 rfl) ho, r⟩
  · refine (I.hok b u e).stay (fun c v hc q => k c v (fun z => ?_) q) (fun _ q => q) fun _ _ q => q
    have n := (hf c z).1
    rcases hc with hc | hc
    · rw [hc, e] at n; cases n
    · rw [hc] at n; cases n
/-- .. and a new tuple lies at the heap's end -/
theorem Inv.tupled {h' : Heap} {t' : Nat} {ch : List Addr} {xs : List V} {us : List Value} (I : Inv X pins σ H s) (k : ∀ b o, b ∉ ch → s.heap.get? b = some o → h'.get? b = some o) (hf : ∀ b ∈ ch, FpOk X pins H b) (r : Vals xs us) (hz : xs.length ≤ sizeLine)
    (hT : IsTup h' s.heap.objs.size us.toArray) : Inv X pins σ (upd H s.heap.objs.size (.tup xs)) { s with heap := h', toks := t' } := by
  have I0 : Inv X pins σ H { s with heap := h', toks := t' } := I.turnedL k hf
  refine I0.track I.fresh (fun ob e => ?_) (Nat.ne_of_gt I.lt) (fun x c e => ?_) (fun p hp => ?_) ⟨hz, us, r, hT⟩
  · exact absurd (Nat.lt_of_lt_of_le (Heap.lt_size e) I.sz) (Nat.lt_irrefl _)
  · obtain ⟨v, q⟩ := I.cell x c e
    exact Nat.ne_of_lt q.lt
  · exact Nat.ne_of_lt (Heap.lt_size (I.pin p hp).1)
end
/-- three lists side by side: a new tuple each turn -/
def Itz (K : PySem.W.Frag) (a b c : Addr) : It :=
  ⟨fun i H => ∃ xs ys zs x y z, SqL K H a xs ∧ SqL K H b ys ∧ SqL K H c zs ∧ xs[i]? = some x ∧ ys[i]? = some y ∧ zs[i]? = some z,
   fun i H v H' => ∃ T, H T = none ∧ v = .ref T ∧ ∀ xs ys zs x y z, SqL K H a xs → SqL K H b ys → SqL K H c zs → xs[i]? = some x → ys[i]? = some y → zs[i]? = some z → H' = upd H T (.tup [x, y, z]),
   fun i H => ∃ xs, SqL K H a xs ∧ xs.length ≤ i⟩
/-- a list's things with their places -/
def Ite (K : PySem.W.Frag) (a : Addr) : It :=
  ⟨fun i H => ∃ xs x, SqL K H a xs ∧ xs[i]? = some x, fun i H v H' => ∃ T, H T = none ∧ v = .ref T ∧ ∀ xs x, SqL K H a xs → xs[i]? = some x → H' = upd H T (.tup [.int i, x]), fun i H => ∃ xs, SqL K H a xs ∧ xs.length ≤ i⟩
theorem isTup_of {h : Heap} {T : Addr} {us : Array Value} (e : h.get? T = some { cls := .type "tuple", data := .seq us }) : IsTup h T us := ⟨_, e, rfl, _, rfl⟩
theorem turn_zip3 {P : Program} {w : World} {K : PySem.W.Frag} {es : List Expr} {kk : Nat} {tp : Pos} (n a b c : Nat) (b1 : a < n) (b2 : b < n) (b3 : c < n) :
    Turn P w K (.Tuple es kk tp) (Itz K a b c) [n + 5, n + 3, n + 4, n, n + 1, n + 2] (n + 5)
      (fun i h => IsZip h (n + 5) (n + 3) (n + 4) .none ∧ Zip3.Trip h (n + 3) (.ref n) (.ref (n + 1)) (.ref (n + 2)) ∧ (∃ x y z, Zip3.Trip h (n + 4) x y z) ∧ h.IsListIter n a i ∧ h.IsListIter (n + 1) b i ∧ h.IsListIter (n + 2) c i) where
  mem := by simp
  obj := fun i h st d hd => by
    obtain ⟨hZ, hI, ⟨x, y, z, hO⟩, ⟨o1, p1, q1, r1⟩, ⟨o2, p2, q2, r2⟩, ⟨o3, p3, q3, r3⟩⟩ := st
    simp only [List.mem_cons, List.not_mem_nil, or_false] at hd
    rcases hd with rfl | rfl | rfl | rfl | rfl | rfl
    · exact ⟨_, hZ, fun v z => nomatch z⟩
    · exact ⟨_, hI, fun v z => nomatch z⟩
    · exact ⟨_, hO, fun v z => nomatch z⟩
    · exact ⟨_, p1, fun v z => by rw [r1] at z; cases z⟩
    · exact ⟨_, p2, fun v z => by rw [r2] at z; cases z⟩
    · exact ⟨_, p3, fun v z => by rw [r3] at z; cases z⟩
  keep := fun i h h' st k => by
    obtain ⟨hZ, hI, ⟨x, y, z, hO⟩, h1, h2, h3⟩ := st
    exact ⟨k _ (by simp) _ hZ, k _ (by simp) _ hI, ⟨x, y, z, k _ (by simp) _ hO⟩, h1.at fun o e => k _ (by simp) o e, h2.at fun o e => k _ (by simp) o e, h3.at fun o e => k _ (by simp) o e⟩
  item := by
    intro X hP hw hK hc i pins s σ H E I hf st hg
    subst hP hw hK
    obtain ⟨hZ, hI, ⟨x0, y0, z0, hO⟩, h1, h2, h3⟩ := st
    obtain ⟨xs, ys, zs, x, y, z, qa, qb, qc, ea, eb, ec⟩ := hg
    obtain ⟨ia, ra, pa, _⟩ := I.list qa
    obtain ⟨ib, rb, pb, _⟩ := I.list qb
    obtain ⟨ic, rc, pc, _⟩ := I.list qc
    obtain ⟨ux, hux, rx⟩ := ra.get ea
    obtain ⟨uy, huy, ry⟩ := rb.get eb
    obtain ⟨uz, huz, rz⟩ := rc.get ec
    have z5 : n + 5 < s.heap.objs.size := Heap.lt_size hZ
    have ap : ∀ i j : Nat, i ≠ j → n + i ≠ n + j := fun i j h => by omega
    refine Zip3.pyNext3 b1 b2 b3 hZ hI hO h1 h2 h3 pa.isList pb.isList pc.isList (x := ux) (y := uy) (z := uz) (by simpa using hux) (by simpa using huy) (by simpa using huz) fun h' zz oo i1 i2 i3 hT sz kk => ?_
    have I1 : Inv X pins σ (upd H s.heap.objs.size (.tup [x, y, z])) { s with heap := h' } := I.tupled (t' := s.toks) (us := [ux, uy, uz]) (ch := [n + 5, n + 3, n + 4, n, n + 1, n + 2]) (fun d o hd e => by
      simp only [List.mem_cons, List.not_mem_nil, or_false, not_or] at hd
      exact kk d o hd.1 hd.2.2.1 hd.2.2.2.1 hd.2.2.2.2.1 hd.2.2.2.2.2 e) hf (.cons rx (.cons ry (.cons rz .nil))) (Nat.le_trans (show 3 ≤ 100000 by decide) (by decide)) (isTup_of hT)
    refine ⟨.ref s.heap.objs.size, rfl, wpAny_letOwnedTupleGo_zip zz fun h'' zz2 sb => ?_⟩
    have f5 := hf (n + 5) (by simp)
    have I2 : Inv X pins σ (upd H s.heap.objs.size (.tup [x, y, z])) { s with heap := h'' } := I1.turned (t' := s.toks) (fun d o hd e => sb.extBut d o hd e) (by rw [upd_ne (Nat.ne_of_lt z5)]; exact f5.1) f5.2.1 f5.2.2.2.1 f5.2.2.2.2.1 f5.2.2.2.2.2
    have hI' : Zip3.Trip h' (n + 3) (.ref n) (.ref (n + 1)) (.ref (n + 2)) := kk _ _ (ap 3 5 (by decide)) (ap 3 4 (by decide)) (ap 3 0 (by decide)) (ap 3 1 (by decide)) (ap 3 2 (by decide)) hI
    refine ⟨.ref s.heap.objs.size, _, I2, rfl, ⟨_, I.fresh, rfl, fun xs' ys' zs' x' y' z' g1 g2 g3 e1 e2 e3 => ?_⟩, ⟨zz2, sb.extBut _ _ (ap 3 5 (by decide)) hI', ⟨_, _, _, sb.extBut _ _ (ap 4 5 (by decide)) oo⟩, i1.extBut sb.extBut (ap 0 5 (by decide)), i2.extBut sb.extBut (ap 1 5 (by decide)), i3.extBut sb.extBut (ap 2 5 (by decide))⟩, fun d hd => ?_⟩
    · rw [I.list_inj g1 qa, ea] at e1
      rw [I.list_inj g2 qb, eb] at e2
      rw [I.list_inj g3 qc, ec] at e3
      cases e1; cases e2; cases e3
      rfl
    · have nd : d ≠ s.heap.objs.size := by
        simp only [List.mem_cons, List.not_mem_nil, or_false] at hd
        have z6 : (n : Nat) + 1 < s.heap.objs.size := by omega
        show ¬ (@Eq Nat d s.heap.objs.size)
        intro e
        have hd : @Eq Nat d (n + 5) ∨ @Eq Nat d (n + 3) ∨ @Eq Nat d (n + 4) ∨ @Eq Nat d n ∨ @Eq Nat d (n + 1) ∨ @Eq Nat d (n + 2) := hd
        omega
      rw [upd_ne nd]
      exact (hf d hd).1
  done := by
    intro X hP hw hK hc i pins s σ H E I hf st hg
    subst hP hw hK
    obtain ⟨hZ, hI, ⟨x0, y0, z0, hO⟩, h1, h2, h3⟩ := st
    obtain ⟨xs, qa, hx⟩ := hg
    obtain ⟨ia, ra, pa, _⟩ := I.list qa
    have hl := ra.length
    refine Zip3.pyEnd3 (I.ok.hd hc) b1 hZ hI hO h1 pa.isList (by simp; omega) fun h' kk => ⟨rfl, I.turnedL (t' := s.toks) (ch := [n + 5, n + 3, n + 4, n, n + 1, n + 2]) (fun d o hd e => ?_) hf⟩
    simp only [List.mem_cons, List.not_mem_nil, or_false, not_or] at hd
    exact kk d o hd.1 hd.2.2.2.1 e
  self := fun _ _ _ _ _ st h => wpAny_pyIter_zip st.1 h
theorem turn_enum {P : Program} {w : World} {K : PySem.W.Frag} {es : List Expr} {kk : Nat} {tp : Pos} (n a : Nat) (b1 : a < n) :
    Turn P w K (.Tuple es kk tp) (Ite K a) [n + 1, n] (n + 1) (fun i h => (∃ old, IsEnum h (n + 1) n i old) ∧ h.IsListIter n a i) where
  mem := by simp
  obj := fun i h st d hd => by
    obtain ⟨⟨old, hE⟩, ⟨o1, p1, q1, r1⟩⟩ := st
    simp only [List.mem_cons, List.not_mem_nil, or_false] at hd
    rcases hd with rfl | rfl
    · exact ⟨_, hE, fun v z => nomatch z⟩
    · exact ⟨_, p1, fun v z => by rw [r1] at z; cases z⟩
  keep := fun i h h' st k => by
    obtain ⟨⟨old, hE⟩, h1⟩ := st
    exact ⟨⟨old, k _ (by simp) _ hE⟩, h1.at fun o e => k _ (by simp) o e⟩
  item := by
    intro X hP hw hK hc i pins s σ H E I hf st hg
    subst hP hw hK
    obtain ⟨⟨old, hE⟩, h1⟩ := st
    obtain ⟨xs, x, qa, ea⟩ := hg
    obtain ⟨ia, ra, pa, _⟩ := I.list qa
    obtain ⟨ux, hux, rx⟩ := ra.get ea
    have z5 : n + 1 < s.heap.objs.size := Heap.lt_size hE
    have n01 : n ≠ n + 1 := by omega
    have n10 : n + 1 ≠ n := by omega
    refine wpAny_pyNext_enum_item hE h1 pa.isList (x := ux) (by simpa using hux) n10 fun h' oo i1 hT sz kk => ?_
    have I1 : Inv X pins σ (upd H s.heap.objs.size (.tup [.int i, x])) { s with heap := h', toks := s.toks + 1 } := I.tupled (t' := s.toks + 1) (us := [.int i s.toks, ux]) (ch := [n + 1, n]) (fun d o hd e => by
      simp only [List.mem_cons, List.not_mem_nil, or_false, not_or] at hd
      exact kk d o hd.1 hd.2 e) hf (.cons ⟨_, rfl⟩ (.cons rx .nil)) (Nat.le_trans (show 2 ≤ 100000 by decide) (by decide)) (isTup_of hT)
    refine ⟨.ref s.heap.objs.size, rfl, wpAny_letOwnedTupleGo_enum oo fun h'' zz2 sb => ?_⟩
    have f5 := hf (n + 1) (by simp)
    have I2 : Inv X pins σ (upd H s.heap.objs.size (.tup [.int i, x])) { s with heap := h'', toks := s.toks + 1 } := I1.turned (t' := s.toks + 1) (fun d o hd e => sb.extBut d o hd e) (by rw [upd_ne (Nat.ne_of_lt z5)]; exact f5.1) f5.2.1 f5.2.2.2.1 f5.2.2.2.2.1 f5.2.2.2.2.2
    refine ⟨.ref s.heap.objs.size, _, I2, rfl, ⟨_, I.fresh, rfl, fun xs' x' g1 e1 => ?_⟩, ⟨⟨_, by simpa using zz2⟩, i1.extBut sb.extBut n01⟩, fun d hd => ?_⟩
    · rw [I.list_inj g1 qa, ea] at e1
      cases e1
      rfl
    · have nd : d ≠ s.heap.objs.size := by
        simp only [List.mem_cons, List.not_mem_nil, or_false] at hd
        have z6 : (n : Nat) + 1 < s.heap.objs.size := by omega
        show ¬ (@Eq Nat d s.heap.objs.size)
        intro e
        have hd : @Eq Nat d (n + 1) ∨ @Eq Nat d n := hd
        omega
      rw [upd_ne nd]
      exact (hf d hd).1
  done := by
    intro X hP hw hK hc i pins s σ H E I hf st hg
    subst hP hw hK
    obtain ⟨⟨old, hE⟩, h1⟩ := st
    obtain ⟨xs, qa, hx⟩ := hg
    obtain ⟨ia, ra, pa, _⟩ := I.list qa
    have hl := ra.length
    refine wpAny_pyNext_enum_end (I.ok.hd hc) hE h1 pa.isList (by simp; omega) fun h' kk => ⟨rfl, I.turnedL (t' := s.toks) (ch := [n + 1, n]) (fun d o hd e => ?_) hf⟩
    simp only [List.mem_cons, List.not_mem_nil, or_false, not_or] at hd
    exact kk d o hd.2 e
  self := fun _ _ _ _ _ st h => by
    obtain ⟨⟨old, hE⟩, _⟩ := st
    exact wpAny_pyIter_enum hE h
def iZip3 (K : PySem.W.Frag) (t : TA) : TI := fun σ H R => t σ H fun vs H1 => ∃ a b c xs ys zs, vs = [.ref a, .ref b, .ref c] ∧ SqL K H1 a xs ∧ SqL K H1 b ys ∧ SqL K H1 c zs ∧ R (Itz K a b c) H1
def iEnum (K : PySem.W.Frag) (t : TA) : TI := fun σ H R => t σ H fun vs H1 => ∃ a xs, vs = [.ref a] ∧ SqL K H1 a xs ∧ R (Ite K a) H1
section
variable {X : Cx}
theorem pi_zip3 {e1 e2 e3 : Expr} {t : TA} {p pos tp : Pos} {es : List Expr} {kk : Nat} (hg : Gl X "zip") (hm : X.mg "zip" = none) (ha : PA X [e1, e2, e3] t) (n1 : notStar e1 = true) (n2 : noStars [e2, e3] = true) : PI X (.Tuple es kk tp) (.Call (.Name "zip" p) [e1, e2, e3] [] pos) (iZip3 X.K t) := by
  intro pins s σ H R I h
  refine Call_ (ld_blt I hg hm boot_zip (PyProof.Rows.callWith_type1 (thn (ha pos pins s σ H _ I h) fun us s1 ⟨vs, H1, I1, r1, q1⟩ => ?_) (star_of n1) (noStars_any n2)))
  obtain ⟨a, b, c, xs, ys, zs, e, qa, qb, qc, q⟩ := q1
  subst e
  cases r1 with
  | cons r rr =>
    cases rr with
    | cons r' rr =>
      cases rr with
      | cons r'' rr =>
        cases rr; cases r; cases r'; cases r''
        obtain ⟨ia, ra, pa, _⟩ := I1.list qa
        obtain ⟨ib, rb, pb, _⟩ := I1.list qb
        obtain ⟨ic, rc, pc, _⟩ := I1.list qc
        have la : a < s1.heap.objs.size := by obtain ⟨o, e, _⟩ := pa.isList; exact Heap.lt_size e
        have lb : b < s1.heap.objs.size := by obtain ⟨o, e, _⟩ := pb.isList; exact Heap.lt_size e
        have lc : c < s1.heap.objs.size := by obtain ⟨o, e, _⟩ := pc.isList; exact Heap.lt_size e
        refine Zip3.call3 pa.isList pb.isList pc.isList fun h' n hn z1 t1 o1 i1 i2 i3 sz kk => wpAny_pyIter_zip z1 ?_
        refine ⟨n + 5, _, _, Itz X.K a b c, H1, rfl, I1.kept (t' := s1.toks) kk, turn_zip3 n a b c (hn ▸ la) (hn ▸ lb) (hn ▸ lc), ⟨z1, t1, ⟨_, _, _, o1⟩, i1, i2, i3⟩, fun d hd => ?_, q⟩
        have le : s1.heap.objs.size ≤ d := by
          simp only [List.mem_cons, List.not_mem_nil, or_false] at hd
          have hd : @Eq Nat d (n + 5) ∨ @Eq Nat d (n + 3) ∨ @Eq Nat d (n + 4) ∨ @Eq Nat d n ∨ @Eq Nat d (n + 1) ∨ @Eq Nat d (n + 2) := hd
          show @LE.le Nat _ s1.heap.objs.size d
          omega
        exact I1.fpOk le (I1.hok.fresh le)
theorem pi_enum {e1 : Expr} {t : TA} {p pos tp : Pos} {es : List Expr} {kk : Nat} (hg : Gl X "enumerate") (hm : X.mg "enumerate" = none) (ha : PA X [e1] t) (n1 : notStar e1 = true) : PI X (.Tuple es kk tp) (.Call (.Name "enumerate" p) [e1] [] pos) (iEnum X.K t) := by
  intro pins s σ H R I h
  refine Call_ (ld_blt I hg hm PyProof.Rows.Boot.«enumerate» (PyProof.Rows.callWith_type1 (thn (ha pos pins s σ H _ I h) fun us s1 ⟨vs, H1, I1, r1, q1⟩ => ?_) (star_of n1) (noStars_any (by rfl))))
  obtain ⟨a, xs, e, qa, q⟩ := q1
  subst e
  cases r1 with
  | cons r rr =>
    cases rr; cases r
    obtain ⟨ia, ra, pa, _⟩ := I1.list qa
    have la : a < s1.heap.objs.size := by obtain ⟨o, e, _⟩ := pa.isList; exact Heap.lt_size e
    refine call_enumerate_list pa.isList fun h' hE hI sz kk => wpAny_pyIter_enum hE ?_
    refine ⟨s1.heap.objs.size + 1, _, _, Ite X.K a, H1, rfl, I1.kept (t' := s1.toks) kk, turn_enum s1.heap.objs.size a la, ⟨⟨_, hE⟩, hI⟩, fun d hd => ?_, q⟩
    have le : s1.heap.objs.size ≤ d := by
      simp only [List.mem_cons, List.not_mem_nil, or_false] at hd
      have hd : @Eq Nat d (s1.heap.objs.size + 1) ∨ @Eq Nat d s1.heap.objs.size := hd
      show @LE.le Nat _ s1.heap.objs.size d
      omega
    exact I1.fpOk le (I1.hok.fresh le)
/-! over judgements that do not open -/
@[irreducible] def QTs (X : Cx) (ifs : List Expr) (t : TT) : Prop := PTs X ifs t
@[irreducible] def QGs (X : Cx) (es : List Expr) (t : TGs) : Prop := PGs X es t
theorem QTs.to {ifs : List Expr} {t : TT} (h : QTs X ifs t) : PTs X ifs t := by unfold QTs at h; exact h
theorem QGs.to {es : List Expr} {t : TGs} (h : QGs X es t) : PGs X es t := by unfold QGs at h; exact h
theorem qts_nil : QTs X [] ttNil := by unfold QTs; exact pts_nil
theorem qts_one {c : Expr} {t : TT} (h : QT X c t) : QTs X [c] t := by unfold QTs; exact pts_one h.to
theorem qgs_nil : QGs X [] gNil := by unfold QGs; exact pgs_nil
theorem qgs_cons {e : Expr} {es : List Expr} {t : TG} {u : TGs} (h1 : QG X e t) (h2 : QGs X es u) (hs : (assignEach (e :: es) X.env).map (·.2) = assign e X.env :: (assignEach es X.env).map (·.2) := by rfl) : QGs X (e :: es) (gCons t u) := by unfold QGs; exact pgs_cons h1.to h2.to hs
theorem qg_tup {es : List Expr} {k : Nat} {t : TGs} {n : Nat} {pos : Pos} (h : QGs X es t) (hc : X.calm = true := by rfl) (hn : (assignEach es X.env).length = n := by rfl) (hst : (assignEach es X.env).findIdx? (·.1) = none := by rfl) : QG X (.Tuple es k pos) (gTup X.K n t) := .of (pg_tup hc h.to hn hst)
theorem qg_tupC {N : List Str} {scope : Scope} {C : Addr} {fp : List Addr} {s : Shared} {H : Hp} {es : List Expr} {k : Nat} {t : TGs} {pos : Pos} (h : QGs (cxComp X N scope C fp s H) es t) (hc : X.calm = true := by rfl) (hn : (assignEach es (cxComp X N scope C fp s H).env).length = es.length := by rfl) (hst : (assignEach es (cxComp X N scope C fp s H).env).findIdx? (·.1) = none := by rfl) :
    QG (cxComp X N scope C fp s H) (.Tuple es k pos) (gTup X.K es.length t) := qg_tup (X := cxComp X N scope C fp s H) h hc hn hst
theorem q_ixlC {N : List Str} {scope : Scope} {C : Addr} {fp : List Addr} {s : Shared} {H : Hp} : QIx (cxComp X N scope C fp s H) (rIxL X.K) := q_ixl (X := cxComp X N scope C fp s H)
theorem q_ixtC {N : List Str} {scope : Scope} {C : Addr} {fp : List Addr} {s : Shared} {H : Hp} : QIx (cxComp X N scope C fp s H) (rIxT X.K) := q_ixt (X := cxComp X N scope C fp s H)
theorem qg_nameC {i : Nat} {x : Str} {pos : Pos} (hN : X.N.Nodup) (hi : X.N[i]? = some x := by rfl) (hx : X.env.scope.names.lookup x = some .cell := by rfl) (hf : X.fn x = true := by rfl) : QG X (.Name x pos) (gName i) := .of (pg_name hN hi (Or.inr hx) (.inl hf))
theorem qi_zip3 {e1 e2 e3 : Expr} {t : TA} {p pos tp : Pos} {es : List Expr} {kk : Nat} (hm : X.mg "zip" = none) (ha : QA X [e1, e2, e3] t) (hg : Gl X "zip" := by rfl) (n1 : notStar e1 = true := by rfl) (n2 : noStars [e2, e3] = true := by rfl) : QI X (.Tuple es kk tp) (.Call (.Name "zip" p) [e1, e2, e3] [] pos) (iZip3 X.K t) := .of (pi_zip3 hg hm ha.to n1 n2)
theorem qi_enum {e1 : Expr} {t : TA} {p pos tp : Pos} {es : List Expr} {kk : Nat} (hm : X.mg "enumerate" = none) (ha : QA X [e1] t) (hg : Gl X "enumerate" := by rfl) (n1 : notStar e1 = true := by rfl) : QI X (.Tuple es kk tp) (.Call (.Name "enumerate" p) [e1] [] pos) (iEnum X.K t) := .of (pi_enum hg hm ha.to n1)
theorem qe_comp {elt iter tg : Expr} {ifs : List Expr} {scope : Scope} {pos : Pos} (N : List Str) (pick : List (Option Nat)) {wi : TI} {g : TG} {tt : TT} {te : TE} (hi : QI X tg iter wi) (hg : ∀ C fp s H, QG (cxComp X N scope C fp s H) tg g) (ht : ∀ C fp s H, QTs (cxComp X N scope C fp s H) ifs tt)
    (he : ∀ C fp s H, QE (cxComp X N scope C fp s H) elt te) (ok : compOk X scope N pick = true := by rfl) (hc : X.calm = true := by rfl) (hs : ∀ x, foldedSetIterable iter X.env x = pure x := by intro _; rfl) : QE X (.ListComp elt [⟨tg, iter, ifs, 0⟩] scope pos) (tComp wi pick g tt te) :=
  .of (pe_comp N pick hc ok hi.to (fun C fp s H => (hg C fp s H).to) (fun C fp s H => (ht C fp s H).to) (fun C fp s H => (he C fp s H).to) hs)
theorem qs_comp {elt iter tg : Expr} {ifs : List Expr} {scope : Scope} {pos py spos : Pos} {y : Str} (N : List Str) (pick : List (Option Nat)) {wi : TI} {g gy : TG} {tt : TT} {te : TE} (hi : QI X tg iter wi) (hg : ∀ C fp s H, QG (cxComp X N scope C fp s H) tg g) (ht : ∀ C fp s H, QTs (cxComp X N scope C fp s H) ifs tt)
    (he : ∀ C fp s H, QE (cxComp X N scope C fp s H) elt te) (hgy : QG X (.Name y py) gy) (ok : compOk X scope N pick = true := by rfl) (hc : X.calm = true := by rfl) (hsw : swapsWith (.ListComp elt [⟨tg, iter, ifs, 0⟩] scope pos) (some (.Name y py)) spos.line X.env = pure true := by rfl)
    (hs : ∀ x, foldedSetIterable iter X.env x = pure x := by intro _; rfl) : QS X (.Assign [.Name y py] (.ListComp elt [⟨tg, iter, ifs, 0⟩] scope pos) spos) (tSetC (tComp wi pick g tt te) gy) :=
  .of (ps_comp N pick hc ok hi.to (fun C fp s H => (hg C fp s H).to) (fun C fp s H => (ht C fp s H).to) (fun C fp s H => (he C fp s H).to) hgy.to hsw hs)
end
/-! readings: Pv the invariant by the turn, what the new list holds, the block's names, the heap -/
section
variable {K : PySem.W.Frag} {g : TG} {tt : TT} {te : TE} {Q : VK} {σ : St} {H : Hp} {D : Addr}
/-- what a comprehension asks of one turn -/
def Step (g : TG) (tt : TT) (te : TE) (D : Addr) (vs : List V) (σ : St) (H : Hp) (x : V) (R : List V → St → Hp → Prop) : Prop :=
  g x σ H fun σ2 H3 => tt σ2 H3 fun b H4 => if b = true then te σ2 H4 fun v H5 => H5 D = some (.lst vs) ∧ vs.length < sizeLine ∧ R (vs ++ [v]) σ2 (upd H5 D (.lst (vs ++ [v]))) else R vs σ2 H4
/-- one turn with a name as target and no test -/
theorem step_name {i : Nat} {vs : List V} {x : V} {R : List V → St → Hp → Prop} (h : te (σ.set i (some x)) H fun v H5 => H5 D = some (.lst vs) ∧ vs.length < sizeLine ∧ R (vs ++ [v]) (σ.set i (some x)) (upd H5 D (.lst (vs ++ [v])))) : Step (gName i) ttNil te D vs σ H x R :=
  iteT (B := R vs (σ.set i (some x)) H) h
/-- .. with a test -/
theorem step_test {i : Nat} {vs : List V} {x : V} {R : List V → St → Hp → Prop} (h : tt (σ.set i (some x)) H fun b H4 => if b = true then te (σ.set i (some x)) H4 fun v H5 => H5 D = some (.lst vs) ∧ vs.length < sizeLine ∧ R (vs ++ [v]) (σ.set i (some x)) (upd H5 D (.lst (vs ++ [v]))) else R vs (σ.set i (some x)) H4) : Step (gName i) tt te D vs σ H x R := h
/-- by a number of turns -/
theorem comp_by {J : It} {n : Nat} (Pv : Nat → List V → St → Hp → Prop) (h0 : Pv 0 [] σ (upd H D (.lst []))) (hd : ∀ vs σ H, Pv n vs σ H → J.stop n H ∧ Q (.ref D) H)
    (hs : ∀ i vs σ H, i < n → Pv i vs σ H → J.go i H ∧ ∀ x H2 (R : List V → St → Hp → Prop), J.yld i H x H2 → (∀ vs σ H, Pv (i + 1) vs σ H → R vs σ H) → Step g tt te D vs σ H2 x R) :
    ∃ W : Nat → Nat → List V → St → Hp → Prop, (∃ m, W 0 m [] σ (upd H D (.lst []))) ∧ ∀ i m vs σ' H', W i m vs σ' H' → (J.stop i H' ∧ Q (.ref D) H') ∨ (J.go i H' ∧ ∀ x H2, J.yld i H' x H2 → g x σ' H2 fun σ2 H3 => tt σ2 H3 fun b H4 =>
      if b = true then te σ2 H4 fun v H5 => H5 D = some (.lst vs) ∧ vs.length < sizeLine ∧ ∃ m', m' < m ∧ W (i + 1) m' (vs ++ [v]) σ2 (upd H5 D (.lst (vs ++ [v]))) else ∃ m', m' < m ∧ W (i + 1) m' vs σ2 H4) := by
  refine ⟨fun i m vs σ H => m + i = n ∧ Pv i vs σ H, ⟨n, by simp, h0⟩, ?_⟩
  rintro i m vs σ' H' ⟨hm, p⟩
  cases m with
  | zero =>
    have e : i = n := by omega
    subst e
    exact .inl (hd vs σ' H' p)
  | succ m =>
    obtain ⟨a, b⟩ := hs i vs σ' H' (by omega) p
    exact .inr ⟨a, fun x H2 y => b x H2 (fun vs σ H => ∃ m', m' < m + 1 ∧ m' + (i + 1) = n ∧ Pv (i + 1) vs σ H) y fun vs σ H q => ⟨m, by omega, by omega, q⟩⟩
/-- a loop by a number of turns -/
theorem for_by {J : It} {tb : TS} {Dn : Ends} {n : Nat} (Pv : Nat → St → Hp → Prop) (h0 : Pv 0 σ H) (hd : ∀ σ H, Pv n σ H → J.stop n H ∧ Dn.nx σ H)
    (hs : ∀ i σ H, i < n → Pv i σ H → J.go i H ∧ ∀ x H', J.yld i H x H' → g x σ H' fun σ2 H2 => tb { Dn with nx := Pv (i + 1), ct := Pv (i + 1), bk := Dn.nx } σ2 H2) :
    ∃ W : Nat → Nat → St → Hp → Prop, (∃ m, W 0 m σ H) ∧ ∀ i m σ H, W i m σ H → (J.stop i H ∧ Dn.nx σ H) ∨ (J.go i H ∧ ∃ N : St → Hp → Prop, (∀ σ' H', N σ' H' → ∃ m', m' < m ∧ W (i + 1) m' σ' H') ∧ ∀ x H', J.yld i H x H' → g x σ H' fun σ2 H2 => tb { Dn with nx := N, ct := N, bk := Dn.nx } σ2 H2) := by
  refine ⟨fun i m σ H => m + i = n ∧ Pv i σ H, ⟨n, by simp, h0⟩, ?_⟩
  rintro i m σ H ⟨hm, p⟩
  cases m with
  | zero =>
    have e : i = n := by omega
    subst e
    exact .inl (hd σ H p)
  | succ m =>
    obtain ⟨a, b⟩ := hs i σ H (by omega) p
    exact .inr ⟨a, Pv (i + 1), fun σ' H' q => ⟨m, by omega, by omega, q⟩, b⟩
end
end L2

/-! ### reversed(text); methods find and join of texts -/
namespace RevS
open PySem PySem.Spec PyProof.Rows
theorem sNext : Slot "reversed" "__next__" "reversed.__next__" := .of (owner := "reversed") (n := "__next__") (by rw [typeLookup_type, builtinLookup_eq_fast]; kernel_rfl) (by decide +kernel) (by decide +kernel) (by decide +kernel) (by first | exact .inl (by decide +kernel) | exact .inr (by decide +kernel)) (by rw [isSubtype_type]; kernel_rfl)
theorem eNext : entryFor table "reversed.__next__" = some Builtin.«reversed.__next__» := entryFor_of_tree (by kernel_rfl)
theorem aNext (a : Value) : argsOk "reversed.__next__" ⟨[a], []⟩ := by unfold argsOk; kernel_rfl
theorem sIter : Slot "reversed" "__iter__" "reversed.__iter__" := .of (owner := "reversed") (n := "__iter__") (by rw [typeLookup_type, builtinLookup_eq_fast]; kernel_rfl) (by decide +kernel) (by decide +kernel) (by decide +kernel) (by first | exact .inl (by decide +kernel) | exact .inr (by decide +kernel)) (by rw [isSubtype_type]; kernel_rfl)
theorem eIter : entryFor table "reversed.__iter__" = some Builtin.«dict_keyiterator.__iter__» := entryFor_alias (id' := "dict_keyiterator.__iter__") (by kernel_rfl) (by first | rfl | decide +kernel | (unfold String.splitOn; simp +decide [String.splitOnAux])) (by decide +kernel) (by kernel_rfl)
theorem aIter (a : Value) : argsOk "reversed.__iter__" ⟨[a], []⟩ := by unfold argsOk; kernel_rfl
theorem sInit : Slot "reversed" "__init__" "object.__init__" := .of (owner := "object") (n := "__init__") (by rw [typeLookup_type, builtinLookup_eq_fast]; kernel_rfl) (by decide +kernel) (by decide +kernel) (by decide +kernel) (by first | exact .inl (by decide +kernel) | exact .inr (by decide +kernel)) (by rw [isSubtype_type]; kernel_rfl)
theorem mroR : mroOf (.type "reversed") = pure [.type "reversed", .type "object"] := by rw [mroOf_type]; kernel_rfl
theorem newR : typeLookup (.type "reversed") "__new__" = pure (some (.builtin "reversed.__new__")) := by rw [typeLookup_type, builtinLookup_eq_fast]; kernel_rfl
theorem entR : entryFor table "reversed.__new__" = some Builtin.«reversed.__new__» := entryFor_of_tree (by kernel_rfl)
theorem selfR : isSubtype (.type "reversed") (.type "reversed") = pure true := by rw [isSubtype_type]; kernel_rfl
theorem called : TypeCalled "reversed" "reversed.__new__" "object.__init__" := ⟨by decide +kernel, by decide +kernel, ⟨_, _, mroR⟩, madeBy_type mroR newR (by decide +kernel), by decide +kernel, selfR, sInit⟩
theorem tcR (a : Value) : checkTypeCall "reversed" ⟨[a], []⟩ = pure () := by kernel_rfl
theorem ncR (a : Value) : checkBuiltinCall "reversed.__new__" ⟨[.type "reversed", a], []⟩ = pure () := by kernel_rfl
theorem initR (a b : Value) : argsOk "object.__init__" ⟨[a, b], []⟩ := by unfold argsOk; kernel_rfl
theorem noRev : typeLookup (.type "str") "__reversed__" = pure none := by rw [typeLookup_type, builtinLookup_eq_fast]; kernel_rfl
theorem noDict : isSubtype (.type "str") (.type "dict") = pure false := by rw [isSubtype_type]; kernel_rfl
theorem itemS : typeLookup (.type "str") "__getitem__" = pure (some (.builtin "str.__getitem__")) := by rw [typeLookup_type, builtinLookup_eq_fast]; kernel_rfl
def obj (z : Str) (t : Tok) (i : Int) : Obj := { cls := .type "reversed", data := .fields #[.str z t, rawInt i] }
theorem classR (a : Value) : Builtin.SmallTypes.newClass "reversed" ⟨[.type "reversed", a], []⟩ = pure (.type "reversed", [a]) := by
  unfold Builtin.SmallTypes.newClass
  simp only [isType, selfR, pure_bind, Bool.not_true, Bool.false_eq_true, if_false]
theorem meetsR (z : Str) (t : Tok) (hz : z.length < 2 ^ 62) : Meets (Builtin.«reversed.__new__» ⟨[.type "reversed", .str z t], []⟩) (fun _ R s => ∀ k, R (.ok (.ret (.ref s.heap.objs.size))) { s with heap := s.heap.push (obj z t ((z.length : Int) - 1)), toks := k }) :=
  .of_wp fun prog w A R s h => by
    unfold Builtin.«reversed.__new__»
    refine wpAny_bind (wpAny_of_eq (classR _) ?_)
    try dsimp only
    refine wpAny_bind (wpAny_of_eq (a := ()) (by first | rfl | kernel_rfl) (wpAny_bind (wpAny_of_eq (a := ()) (by first | rfl | kernel_rfl) ?_)))
    try dsimp only
    refine wpAny_bind (wpAny_specialOf (typeIs_str s z t) noRev ?_)
    try dsimp only
    show wpAny _ _ ((isInstance (.str z t) (.type "dict") >>= _) >>= _) _ _ _
    refine wpAny_bind (wpAny_bind (wpAny_isInstance (typeIs_str s z t) noDict ?_))
    rw [if_neg Bool.false_ne_true]
    refine wpAny_bind (wpAny_specialOf (typeIs_str s z t) itemS ?_)
    show wpAny _ _ (if _ then _ else _) _ _ s
    rw [if_pos (by decide +kernel)]
    refine wpAny_pure ?_
    show wpAny _ _ (if (!true) = true then _ else _) _ _ s
    rw [if_neg (by decide)]
    refine wpAny_bind (P.len_str (by show ¬ ((z.length : Nat) : Int) ≥ 2 ^ 63; omega) ?_)
    refine wpAny_bind (wpAny_pure ?_)
    refine wpAny_bind (show wpAny _ _ (newObj (.type "reversed") (.fields #[.str z t, rawInt ((z.length : Int) - 1)]) none) _ _ _ from wpAny_newObj_type ?_ (by size_fits))
    exact wpAny_pure ⟨_, rfl, h _⟩
section
variable {prog : Program} {w : World} {A : Around} {E : Value → Shared → Prop} {s : Shared}
def Is (h : Heap) (it : Addr) (z : Str) (t : Tok) (i : Int) : Prop := h.get? it = some (obj z t i)
theorem callR {z : Str} {t : Tok} {Q : Value → Shared → Prop} (hz : z.length < 2 ^ 62) (h : ∀ k, Q (.ref s.heap.objs.size) { s with heap := s.heap.push (obj z t ((z.length : Int) - 1)), toks := k }) : wpAny (model prog w) A (call (.type "reversed") [.str z t]) Q E s := by
  refine callType_new called (by decide) (tcR _) (ncR _) (fun o => initR o _) entR (meetsR z t hz) fun k => ?_
  exact ⟨⟨_, Heap.get?_push_size _ rfl, rfl⟩, h k⟩
theorem sIx {i n : Nat} (h : i < n) : seqIndex? (i : Int) n = some i := by
  unfold seqIndex?
  have n0 : ¬ ((i : Int) < 0) := by omega
  simp only [n0, if_false]
  rw [if_pos (by simp; omega)]
  simp
theorem item {it : Addr} {z : Str} {t : Tok} {i c : Nat} {Q : Option Value → Shared → Prop} (hi : Is s.heap it z t (i : Int)) (hz : z.length < 2 ^ 62) (hc : z.cps[i]? = some c)
    (hQ : ∀ h' k u, Is h' it z t ((i : Int) - 1) → Heap.SameBut it s.heap h' → Q (some (.str ⟨#[c]⟩ u)) { s with heap := h', toks := k }) : wpAny (model prog w) A (pyNext (.ref it)) Q E s := by
  have ty : s.TypeIs (.ref it) "reversed" := ⟨_, hi, rfl⟩
  have hl : i < z.length := (Array.getElem?_eq_some_iff.mp hc).1
  unfold pyNext
  refine wpAny_bind (wpAny_attempt (wpAny_callSpecial?_slot (name := Str.ofString "__next__") ty sNext (wpAny_call_entry sNext ty eNext ?_ (aNext _))))
  unfold Builtin.«reversed.__next__»
  refine wpAny_bind (wpAny_of_eq (a := (Value.ref it, [])) (by rfl) ?_)
  try dsimp only
  refine wpAny_bind (wpAny_field hi (by rfl) (x := .str z t) (by rfl) (wpAny_bind (wpAny_field hi (by rfl) (x := rawInt (i : Int)) (by rfl) ?_)))
  show wpAny _ _ (if (i : Int) < 0 then _ else _) _ _ s
  rw [if_neg (by omega)]
  refine wpAny_bind (wpAny_specialOf (typeIs_str s z t) itemS ?_)
  show wpAny _ _ (if (some (Value.builtin "str.__getitem__")).isNone = true then _ else _) _ _ s
  rw [if_neg (by decide)]
  refine wpAny_bind (wpAny_mkInt (wpAny_bind (wpAny_attempt (P.getItem_str (c := c) ?_ ?_ ?_))))
  · have e1 : decide ((i : Int) < -(2 ^ 63 : Int)) = false := decide_eq_false (by omega)
    have e2 : decide ((i : Int) ≥ 2 ^ 63) = false := decide_eq_false (by omega)
    rw [e1, e2]; rfl
  · rw [sIx hl]; exact hc
  · try dsimp only
    refine wpAny_bind (wpAny_field hi (by rfl) (x := rawInt (i : Int)) (by rfl) ?_)
    show wpAny _ _ (setField (.ref it) 1 (rawInt ((i : Int) - 1)) >>= _) _ _ _
    refine wpAny_bind (wpAny_setField_rec hi (by simp [obj]) fun h' hi' sb => wpAny_pure ⟨_, rfl, wpAny_pure (hQ h' _ _ hi' sb)⟩)
theorem stop {it : Addr} {z : Str} {t : Tok} {Q : Option Value → Shared → Prop} (hh : A.handled = none) (hi : Is s.heap it z t (-1)) (hQ : ∀ h', Heap.ExtBut it s.heap h' → Q none { s with heap := h' }) : wpAny (model prog w) A (pyNext (.ref it)) Q E s := by
  have ty : s.TypeIs (.ref it) "reversed" := ⟨_, hi, rfl⟩
  unfold pyNext
  refine wpAny_bind (wpAny_attempt (wpAny_callSpecial?_slot (name := Str.ofString "__next__") ty sNext (wpAny_call_entry sNext ty eNext ?_ (aNext _))))
  unfold Builtin.«reversed.__next__»
  refine wpAny_bind (wpAny_of_eq (a := (Value.ref it, [])) (by rfl) ?_)
  try dsimp only
  refine wpAny_bind (wpAny_field hi (by rfl) (x := .str z t) (by rfl) (wpAny_bind (wpAny_field hi (by rfl) (x := rawInt (-1)) (by rfl) ?_)))
  show wpAny _ _ (if (-1 : Int) < 0 then _ else _) _ _ s
  rw [if_pos (by decide)]
  refine wpAny_bind (wpAny_rule ?_)
  show wpAny _ _ ((setField (.ref it) 1 (rawInt (-1)) >>= _) >>= _) _ _ _
  refine wpAny_bind (wpAny_bind (wpAny_setField_rec hi (by simp [obj]) fun h1 hi1 sb1 => wpAny_setField_rec (vs := #[.str z t, rawInt (-1)]) hi1 (by simp) fun h2 hi2 sb2 => ?_))
  show wpAny _ _ (Builtin.SmallTypes.stopIteration >>= _) _ _ _
  refine wpAny_bind (by
    show wpAny _ _ (newExc (.type "StopIteration") [] >>= _) _ _ _
    refine wpAny_bind (by
      simp only [newExc, newTuple]
      refine wpAny_bind (wpAny_newObj_type (wpAny_bind (m := firstArgMember _ _) (wpAny_of_eq (a := Value.none) (by first | rfl | (simp only [firstArgMember]; rfl)) (wpAny_newObj_type ?_ (by size_fits)))) (by size_fits))
      simp only [raiseNew]
      refine wpAny_bind (wpAny_handled ?_)
      first | rw [show A.in1.handled = none from hh] | rw [hh]
      refine wpAny_bind (wpAny_pure (wpAny_throw ?_))
      refine wpAny_bind (wpAny_isInstance (T := "StopIteration") (b := true) ⟨_, Heap.get?_push_size _ rfl, rfl⟩ isSubtype_stop ?_)
      refine wpAny_pure (hQ _ ?_)
      exact fun b o hb e => Heap.get?_push_of_some _ (Heap.get?_push_of_some _ (sb2.extBut b o hb (sb1.extBut b o hb e)))))
theorem iter {it : Addr} {z : Str} {t : Tok} {i : Int} {Q : Value → Shared → Prop} (hi : Is s.heap it z t i) (h : Q (.ref it) s) : wpAny (model prog w) A (pyIter (.ref it)) Q E s := by
  have ty : s.TypeIs (.ref it) "reversed" := ⟨_, hi, rfl⟩
  refine wpAny_pyIter_slot ty sIter (wpAny_call_entry sIter ty eIter (show wpAny _ _ (ret (.ref it)) _ _ s from wpAny_pure ⟨_, rfl, "reversed", _, ty, sNext.lookup, h⟩) (aIter _))
end
end RevS
namespace L2
open PySem PySem.Spec PyProof.Rows
/-- a text's signs, the last first -/
def Itrs (z : Str) : It := ⟨fun i _ => i < z.length, fun i H x H' => H' = H ∧ ∃ c, z.cps[z.length - 1 - i]? = some c ∧ x = .str ⟨#[c]⟩, fun i _ => z.length ≤ i⟩
theorem turn_revs {P : Program} {w : World} {K : PySem.W.Frag} {tg : Expr} (it : Addr) (z : Str) (t : Tok) (hz : z.length < 2 ^ 62) : Turn P w K tg (Itrs z) [it] it (fun i h => i ≤ z.length ∧ RevS.Is h it z t ((z.length : Int) - 1 - i)) where
  mem := by simp
  obj := fun i h st b hb => by
    have e : b = it := by simpa using hb
    subst e
    exact ⟨_, st.2, fun v z => nomatch z⟩
  keep := fun i h h' st k => ⟨st.1, k it (by simp) _ st.2⟩
  item := by
    intro X hP hw hK hc i pins s σ H E I hf st hg
    subst hP hw hK
    obtain ⟨f0, f1, f2, f3, f4, f5⟩ := hf it (by simp)
    have hi : i < z.length := hg
    obtain ⟨hle, st⟩ := st
    have e : (z.length : Int) - 1 - i = ((z.length - 1 - i : Nat) : Int) := by omega
    rw [e] at st
    have hx : z.cps[z.length - 1 - i]? = some (z.cps[z.length - 1 - i]'(by show _ < z.length; omega)) := Array.getElem?_eq_getElem _
    refine RevS.item st hz hx fun h' k u st' sb => ?_
    have e2 : ((z.length - 1 - i : Nat) : Int) - 1 = (z.length : Int) - 1 - ((i + 1 : Nat) : Int) := by omega
    rw [e2] at st'
    have I1 : Inv X pins σ H { s with heap := h', toks := k } := I.turned (fun b o hb e => sb.extBut b o hb e) f0 f1 f3 f4 f5
    exact ⟨_, rfl, go_of (s := { s with heap := h', toks := k }) (n := "reversed") st' rfl rfl (by decide) ⟨.str ⟨#[_]⟩, H, I1, ⟨u, rfl⟩, ⟨rfl, _, hx, rfl⟩, ⟨hi, st'⟩, fun b hb => (hf b hb).1⟩⟩
  done := by
    intro X hP hw hK hc i pins s σ H E I hf st hg
    subst hP hw hK
    obtain ⟨f0, f1, f2, f3, f4, f5⟩ := hf it (by simp)
    obtain ⟨hle, st⟩ := st
    have hi : z.length ≤ i := hg
    have e : (z.length : Int) - 1 - i = -1 := by omega
    rw [e] at st
    exact RevS.stop (I.ok.hd hc) st fun h' eb => ⟨rfl, I.turned (t' := s.toks) (fun b o hb e => eb b o hb e) f0 f1 f3 f4 f5⟩
  self := fun _ _ _ _ _ st h => RevS.iter st.2 h
def iRevS (t : TA) : TI := fun σ H R => t σ H fun vs H1 => ∃ z : Str, vs = [.str z] ∧ z.length < 2 ^ 62 ∧ R (Itrs z) H1
section
variable {X : Cx}
theorem pi_revs {a : Expr} {ta : TA} {tg : Expr} {p pos : Pos} (hg : Gl X "reversed") (hm : X.mg "reversed" = none) (ha : PA X [a] ta) (hs : starEach [a] X.env = [(false, eval a X.env)]) : PI X tg (.Call (.Name "reversed" p) [a] [] pos) (iRevS ta) := by
  intro pins s σ H R I h
  refine Call_ (ld_blt I hg hm boot_reversed (PyProof.Rows.callWith_type1 (thn (ha pos pins s σ H _ I h) fun us s1 ⟨vs, H1, I1, r1, q1⟩ => ?_) hs (by rfl)))
  obtain ⟨z, e, hz, q⟩ := q1
  subst e
  cases r1 with
  | cons r rr =>
    cases rr
    obtain ⟨t, rfl⟩ := r
    refine RevS.callR hz fun k => RevS.iter (Heap.get?_push_size _ rfl) ?_
    have I2 : Inv X pins σ H1 { s1 with heap := s1.heap.push (RevS.obj z t ((z.length : Int) - 1)), toks := k } := I1.kept fun b o e => Heap.get?_push_of_some _ e
    refine ⟨s1.heap.objs.size, [s1.heap.objs.size], _, _, H1, rfl, I2, turn_revs s1.heap.objs.size z t hz, ⟨Nat.zero_le _, ?_⟩, fun b hb => ?_, q⟩
    · have e : (z.length : Int) - 1 - ((0 : Nat) : Int) = (z.length : Int) - 1 := by omega
      rw [e]
      exact Heap.get?_push_size _ rfl
    · have e : b = s1.heap.objs.size := by simpa using hb
      subst e
      exact I1.fpOk (Nat.le_refl _) (I1.hok.fresh (Nat.le_refl _))
theorem qi_revs {a : Expr} {ta : TE} {tg : Expr} {p pos : Pos} (hm : X.mg "reversed" = none) (ha : QE X a ta) (hg : Gl X "reversed" := by rfl) (hn : notStar a = true := by rfl) : QI X tg (.Call (.Name "reversed" p) [a] [] pos) (iRevS (tCons ta tNil)) := .of (pi_revs hg hm (pa_c ha.to pa_nil hn) (star_of hn))
def rFind : V → List V → Hp → VK → Prop := fun x vs H Q => ∃ z y, x = .str z ∧ vs = [.str y] ∧ Q (.int (PySem.Txt.find z y)) H
theorem mt_find : MtR X "str.find" rFind := by
  intro pins s σ H x vs v us Q I rx rv h
  obtain ⟨z, y, rfl, rfl, q⟩ := h
  obtain ⟨t, rfl⟩ := rx
  obtain ⟨u, rfl, t', rfl⟩ := rv.one
  exact SC.find ⟨.int _, H, I.tok _, ⟨_, rfl⟩, q⟩
theorem q_find : QMt X "str.find" rFind := .of mt_find
theorem strs_of : ∀ {ts : List Str} {its : List Value}, Vals (ts.map V.str) its → ∃ l : List (Str × Tok), its = strValues l ∧ l.map (·.1) = ts
  | [], _, .nil => ⟨[], rfl, rfl⟩
  | t :: r, _, .cons h1 h2 => by
    obtain ⟨k, rfl⟩ := h1
    obtain ⟨l, rfl, e⟩ := strs_of h2
    exact ⟨(t, k) :: l, rfl, by rw [List.map_cons, e]⟩
def rJoin (K : PySem.W.Frag) : V → List V → Hp → VK → Prop := fun x vs H Q => ∃ (z : Str) (a : Addr) (ts : List Str), x = .str z ∧ vs = [.ref a] ∧ SqL K H a (ts.map V.str) ∧ JoinOk z ts = true ∧ Q (.str (PySem.Txt.join z ts)) H
theorem mt_join : MtR X "str.join" (rJoin X.K) := by
  intro pins s σ H x vs v us Q I rx rv h
  obtain ⟨z, a, ts, rfl, rfl, hq, hj, q⟩ := h
  obtain ⟨t, rfl⟩ := rx
  obtain ⟨u, rfl, ru⟩ := rv.one
  cases ru
  obtain ⟨its, r, pl, _⟩ := I.list hq
  obtain ⟨l, rfl, e⟩ := strs_of r
  exact SC.join pl.isList e hj fun t' k => ⟨.str _, H, I.tok _, ⟨_, rfl⟩, q⟩
theorem q_join : QMt X "str.join" (rJoin X.K) := .of mt_join
theorem qe_gl {x : Str} {v : V} {u : Value} {pos : Pos} (hm : X.mg x = some u ∧ RelV v u) (hg : Gl X x := by rfl) (hd : (x == ("__debug__" : Str)) = false := by decide) : QE X (.Name x pos) (tC v) := .of (pe_glob hg hm.1 hm.2 hd)
end
end L2
/-! POISESCALE: what the program's values are, as plain data, and what each def promises -/
namespace Pk
open PySem PySem.Spec PyProof.Rows L2
/-- a form's lays -/
structure IsF (ns : List Int) : Prop where
  lays : ∀ i ∈ ns, -1 ≤ i ∧ i ≤ 1
  last : ns.getLast? ≠ some 0
/-- what a form weighs -/
def weigh : List Int → Int
  | [] => 0
  | a :: r => a + 3 * weigh r
theorem weigh_rev (ns : List Int) : ns.reverse.foldl (fun n a => 3 * n + a) 0 = weigh ns := by
  rw [List.foldl_reverse]
  induction ns with
  | nil => rfl
  | cons a r ih =>
    rw [List.foldr_cons, ih]
    show 3 * weigh r + a = a + 3 * weigh r
    omega
/-- no int at all -/
def NoInt (K : PySem.W.Frag) (H : Hp) (x : V) : Prop := (∃ c, x = .bl c) ∨ ∃ t, TyOf K H x (.type t) ∧ kitD t "int" = some false
def WholeV (K : PySem.W.Frag) (H : Hp) (x : V) (b : Bool) : Prop := (∃ i, x = .int i ∧ b = true) ∨ (NoInt K H x ∧ b = false)
def LayV (K : PySem.W.Frag) (H : Hp) (x : V) (b : Bool) : Prop := (∃ i, x = .int i ∧ b = decide (-1 ≤ i ∧ i ≤ 1)) ∨ (NoInt K H x ∧ b = false)
/-- a list of lays up to a thing that is none, or with a nought at its end -/
def BadL (K : PySem.W.Frag) (H : Hp) (xs : List V) : Prop :=
  (∃ (pre : List Int) (y : V) (post : List V), xs = pre.map V.int ++ y :: post ∧ (∀ i ∈ pre, -1 ≤ i ∧ i ≤ 1) ∧ LayV K H y false) ∨ ∃ ns : List Int, xs = ns.map V.int ∧ (∀ i ∈ ns, -1 ≤ i ∧ i ≤ 1) ∧ ns.getLast? = some 0
/-- what is no form -/
def Bad (K : PySem.W.Frag) (H : Hp) (x : V) : Prop :=
  (∃ t, TyOf K H x (.type t) ∧ kitD t "list" = some false) ∨ ∃ a xs, x = .ref a ∧ H a = some (.lst xs) ∧ BadL K H xs ∧ xs.all okV = true
/-- a form -/
def Good (H : Hp) (x : V) (ns : List Int) : Prop := ∃ a, x = .ref a ∧ H a = some (.lst (ns.map V.int)) ∧ IsF ns

def spWhole (K : PySem.W.Frag) : Sp := fun vs H Q _ => ∃ x b, vs = [x] ∧ WholeV K H x b ∧ Q (.bl b) H
def spLay (K : PySem.W.Frag) : Sp := fun vs H Q _ => ∃ x b, vs = [x] ∧ LayV K H x b ∧ Q (.bl b) H
def spForm (K : PySem.W.Frag) : Sp := fun vs H Q _ => ∃ x, vs = [x] ∧ ((∃ ns, Good H x ns ∧ Q (.bl true) H) ∨ (Bad K H x ∧ Q (.bl false) H))
def spReq (K : PySem.W.Frag) (CF : Addr) : Sp := fun vs H Q E => ∃ x, vs = [x] ∧ ((∃ ns, Good H x ns ∧ Q .non H) ∨ (Bad K H x ∧ E (.ref CF) none H))
def spNumber (K : PySem.W.Frag) (CF : Addr) : Sp := fun vs H Q E => ∃ x, vs = [x] ∧ ((∃ ns, Good H x ns ∧ ns.length ≤ 100000 ∧ Q (.int (weigh ns)) H) ∨ (Bad K H x ∧ E (.ref CF) none H))

/-! the weights in the two pans -/
def lefts (w : Int) : List Int → List Int
  | [] => []
  | a :: r => if a = -1 then w :: lefts (3 * w) r else lefts (3 * w) r
def rights (w : Int) : List Int → List Int
  | [] => []
  | a :: r => if a = 1 then w :: rights (3 * w) r else rights (3 * w) r
theorem pow3 (w : Int) (n : Nat) : 3 * w * 3 ^ n = w * 3 ^ (n + 1) := by rw [Int.pow_succ, Int.mul_comm 3 w, Int.mul_assoc, Int.mul_comm 3]
theorem pow3_odd : ∀ k : Nat, (3 : Int) ^ k % 2 = 1
  | 0 => rfl
  | k + 1 => by have := pow3_odd k; rw [Int.pow_succ]; omega
theorem pow3_pos : ∀ k : Nat, (0 : Int) < 3 ^ k
  | 0 => by decide
  | k + 1 => by have := pow3_pos k; rw [Int.pow_succ]; omega
theorem lefts_snoc (a : Int) : ∀ (xs : List Int) (w : Int), lefts w (xs ++ [a]) = lefts w xs ++ (if a = -1 then [w * 3 ^ xs.length] else [])
  | [], w => by simp [lefts]
  | b :: r, w => by
    have ih := lefts_snoc a r (3 * w)
    rw [pow3] at ih
    show (if b = -1 then w :: lefts (3 * w) (r ++ [a]) else lefts (3 * w) (r ++ [a])) = (if b = -1 then w :: lefts (3 * w) r else lefts (3 * w) r) ++ _
    rw [ih]
    split <;> simp
theorem rights_snoc (a : Int) : ∀ (xs : List Int) (w : Int), rights w (xs ++ [a]) = rights w xs ++ (if a = 1 then [w * 3 ^ xs.length] else [])
  | [], w => by simp [rights]
  | b :: r, w => by
    have ih := rights_snoc a r (3 * w)
    rw [pow3] at ih
    show (if b = 1 then w :: rights (3 * w) (r ++ [a]) else rights (3 * w) (r ++ [a])) = (if b = 1 then w :: rights (3 * w) r else rights (3 * w) r) ++ _
    rw [ih]
    split <;> simp
theorem weigh_snoc (a : Int) : ∀ xs : List Int, weigh (xs ++ [a]) = weigh xs + a * 3 ^ xs.length
  | [] => by simp [weigh]
  | b :: r => by
    have ih := weigh_snoc a r
    show b + 3 * weigh (r ++ [a]) = b + 3 * weigh r + a * 3 ^ (r.length + 1)
    rw [ih, Int.mul_add, Int.pow_succ, ← Int.mul_assoc a, Int.mul_comm 3 (a * _)]
    omega
theorem lefts_len : ∀ (xs : List Int) (w : Int), (lefts w xs).length ≤ xs.length
  | [], w => Nat.le_refl _
  | b :: r, w => by
    have ih := lefts_len r (3 * w)
    show (if b = -1 then w :: lefts (3 * w) r else lefts (3 * w) r).length ≤ r.length + 1
    split
    · rw [List.length_cons]; omega
    · omega
theorem rights_len : ∀ (xs : List Int) (w : Int), (rights w xs).length ≤ xs.length
  | [], w => Nat.le_refl _
  | b :: r, w => by
    have ih := rights_len r (3 * w)
    show (if b = 1 then w :: rights (3 * w) r else rights (3 * w) r).length ≤ r.length + 1
    split
    · rw [List.length_cons]; omega
    · omega
theorem take_one {ns : List Int} {i : Nat} {z : Int} (h : ns[i]? = some z) : ns.take (i + 1) = ns.take i ++ [z] ∧ (ns.take i).length = i := by
  have hi := (List.getElem?_eq_some_iff.mp h).1
  refine ⟨by rw [List.take_add_one, h]; rfl, ?_⟩
  rw [List.length_take]; omega
theorem dec_int_iff {i j : Int} : decide (V.int i = V.int j) = true ↔ i = j := by
  rw [decide_eq_true_iff]
  exact ⟨fun h => by injection h, fun h => by rw [h]⟩
def spPans (K : PySem.W.Frag) (CF : Addr) : Sp := fun vs H Q E => ∃ x, vs = [x] ∧ ((∃ ns, Good H x ns ∧ ns.length ≤ 10000 ∧ ∀ (p q r : Addr) (H' : Hp), H p = none → H q = none → H r = none → p ≠ q →
  H' p = some (.lst ((lefts 1 ns).map V.int)) → H' q = some (.lst ((rights 1 ns).map V.int)) → H' r = some (.tup [.ref p, .ref q]) → Same H H' → Q (.ref r) H') ∨ (Bad K H x ∧ E (.ref CF) none H))

/-! just one form weighs a number -/
theorem isF_tail {a : Int} {r : List Int} (h : IsF (a :: r)) : IsF r := by
  refine ⟨fun i hi => h.lays i (List.mem_cons_of_mem _ hi), fun e => ?_⟩
  cases r with
  | nil => cases e
  | cons b t => exact h.last (by rw [List.getLast?_cons_cons]; exact e)
theorem weigh_zero : ∀ {ns : List Int}, IsF ns → weigh ns = 0 → ns = []
  | [], _, _ => rfl
  | a :: r, h, e => by
    have e : a + 3 * weigh r = 0 := e
    have ha := h.lays a List.mem_cons_self
    have h0 : a = 0 := by omega
    have hr : r = [] := weigh_zero (isF_tail h) (by omega)
    subst hr h0
    exact absurd rfl h.last
theorem weigh_inj : ∀ {ns ms : List Int}, IsF ns → IsF ms → weigh ns = weigh ms → ns = ms
  | [], ms, _, h, e => (weigh_zero h e.symm).symm
  | a :: r, [], h, _, e => weigh_zero h e
  | a :: r, b :: t, h, g, e => by
    have e : a + 3 * weigh r = b + 3 * weigh t := e
    have ha := h.lays a List.mem_cons_self
    have hb := g.lays b List.mem_cons_self
    have h0 : a = b := by omega
    have hr : r = t := weigh_inj (isF_tail h) (isF_tail g) (by omega)
    rw [h0, hr]
theorem weigh_bound : ∀ {ns : List Int}, (∀ i ∈ ns, -1 ≤ i ∧ i ≤ 1) → -(3 ^ ns.length) < 2 * weigh ns ∧ 2 * weigh ns < 3 ^ ns.length
  | [], _ => by simp [weigh]
  | a :: r, h => by
    have ih := weigh_bound (ns := r) fun i hi => h i (List.mem_cons_of_mem _ hi)
    have ha := h a List.mem_cons_self
    show -(3 ^ (r.length + 1)) < 2 * (a + 3 * weigh r) ∧ 2 * (a + 3 * weigh r) < 3 ^ (r.length + 1)
    rw [Int.pow_succ]
    omega
theorem big_range (z : Int) : -(3 ^ 50) < 2 * ((z + 10 ^ Int.toNat 20) % (2 * 10 ^ Int.toNat 20 + 1) - 10 ^ Int.toNat 20) ∧ 2 * ((z + 10 ^ Int.toNat 20) % (2 * 10 ^ Int.toNat 20 + 1) - 10 ^ Int.toNat 20) < 3 ^ 50 := by
  have e : (10 : Int) ^ Int.toNat 20 = 100000000000000000000 := by decide
  have e3 : (3 : Int) ^ 50 = 717897987691852588770249 := by decide
  rw [e, e3]
  omega
def spFormOf (K : PySem.W.Frag) (CN : Addr) : Sp := fun vs H Q E => ∃ x, vs = [x] ∧ ((∃ (n : Int) (m : Nat), x = .int n ∧ -(3 ^ m) < 2 * n ∧ 2 * n < 3 ^ m ∧ m ≤ 20000 ∧ ∀ (p : Addr) (ns : List Int) (H' : Hp), H p = none → H' p = some (.lst (ns.map V.int)) → Same H H' → IsF ns → weigh ns = n → ns.length ≤ m → Q (.ref p) H') ∨ (NoInt K H x ∧ E (.ref CN) none H))

/-! lays by place; where two forms part -/
def layAt (ns : List Int) (j : Nat) : Int := ns.getD j 0
theorem layAt_tail (ns : List Int) (j : Nat) : layAt ns (j + 1) = layAt ns.tail j := by cases ns <;> rfl
theorem weigh_hd (ns : List Int) : weigh ns = layAt ns 0 + 3 * weigh ns.tail := by cases ns <;> rfl
theorem layAt_le {ns : List Int} {j : Nat} (h : ns.length ≤ j) : layAt ns j = 0 := by
  unfold layAt
  rw [List.getD_eq_getElem?_getD, List.getElem?_eq_none_iff.mpr h]; rfl
theorem layAt_get {ns : List Int} {j : Nat} {z : Int} (h : ns[j]? = some z) : layAt ns j = z := by
  unfold layAt
  rw [List.getD_eq_getElem?_getD, h]; rfl
theorem layAt_range {ns : List Int} (h : ∀ i ∈ ns, -1 ≤ i ∧ i ≤ 1) (j : Nat) : -1 ≤ layAt ns j ∧ layAt ns j ≤ 1 := by
  cases e : ns[j]? with
  | none =>
    rw [layAt_le (List.getElem?_eq_none_iff.mp e)]
    omega
  | some z =>
    rw [layAt_get e]
    exact h z (List.mem_of_getElem? e)
theorem tail_range {ns : List Int} (h : ∀ i ∈ ns, -1 ≤ i ∧ i ≤ 1) : ∀ i ∈ ns.tail, -1 ≤ i ∧ i ≤ 1 := fun i hi => h i (List.mem_of_mem_tail hi)
theorem weigh_congr : ∀ (n : Nat) (ns ms : List Int), ns.length + ms.length ≤ n → (∀ j, layAt ns j = layAt ms j) → weigh ns = weigh ms
  | 0, ns, ms, h, _ => by
    have h1 : ns = [] := List.length_eq_zero_iff.mp (by omega)
    have h2 : ms = [] := List.length_eq_zero_iff.mp (by omega)
    rw [h1, h2]
  | n + 1, ns, ms, h, e => by
    by_cases h0 : ns.length + ms.length = 0
    · exact weigh_congr n ns ms (by omega) e
    · have ih := weigh_congr n ns.tail ms.tail (by rw [List.length_tail, List.length_tail]; omega) fun j => by rw [← layAt_tail, ← layAt_tail]; exact e (j + 1)
      rw [weigh_hd ns, weigh_hd ms, e 0, ih]
def PartsAt (ns ms : List Int) : Option Nat → Prop
  | none => ∀ j, layAt ns j = layAt ms j
  | some k => layAt ns k ≠ layAt ms k ∧ ∀ j, k < j → layAt ns j = layAt ms j
theorem parts_lt : ∀ (k : Nat) (ns ms : List Int), (∀ i ∈ ns, -1 ≤ i ∧ i ≤ 1) → (∀ i ∈ ms, -1 ≤ i ∧ i ≤ 1) → PartsAt ns ms (some k) → (layAt ms k < layAt ns k ↔ weigh ms < weigh ns)
  | 0, ns, ms, _, _, ⟨_, h⟩ => by
    have e : weigh ns.tail = weigh ms.tail := weigh_congr _ _ _ (Nat.le_refl _) fun j => by rw [← layAt_tail, ← layAt_tail]; exact h (j + 1) (Nat.succ_pos _)
    rw [weigh_hd ns, weigh_hd ms, e]
    omega
  | k + 1, ns, ms, hn, hm, ⟨h1, h2⟩ => by
    have ih := parts_lt k ns.tail ms.tail (tail_range hn) (tail_range hm) ⟨by rw [← layAt_tail, ← layAt_tail]; exact h1, fun j hj => by rw [← layAt_tail, ← layAt_tail]; exact h2 (j + 1) (by omega)⟩
    have r1 := layAt_range hn 0
    have r2 := layAt_range hm 0
    have ne : weigh ns.tail ≠ weigh ms.tail := fun e => by
      rw [layAt_tail, layAt_tail] at h1
      by_cases h : layAt ms.tail k < layAt ns.tail k
      · have := ih.mp h; omega
      · have s := parts_lt k ms.tail ns.tail (tail_range hm) (tail_range hn) ⟨fun z => h1 z.symm, fun j hj => by rw [← layAt_tail, ← layAt_tail]; exact (h2 (j + 1) (by omega)).symm⟩
        have := s.mp (by omega)
        omega
    rw [layAt_tail ns, layAt_tail ms, weigh_hd ns, weigh_hd ms, ih]
    omega
theorem parts_un {ns ms : List Int} {o o' : Option Nat} (h : PartsAt ns ms o) (g : PartsAt ns ms o') : o = o' := by
  cases o with
  | none =>
    cases o' with
    | none => rfl
    | some k => exact absurd (h k) g.1
  | some i =>
    cases o' with
    | none => exact absurd (g i) h.1
    | some k =>
      by_cases e : i = k
      · rw [e]
      · rcases Nat.lt_or_gt_of_ne e with z | z
        · exact absurd (h.2 k z) g.1
        · exact absurd (g.2 i z) h.1
theorem parts_sym {ns ms : List Int} {o : Option Nat} (h : PartsAt ns ms o) : PartsAt ms ns o := by
  cases o with
  | none => exact fun j => (h j).symm
  | some k => exact ⟨fun e => h.1 e.symm, fun j hj => (h.2 j hj).symm⟩
def negL (ns : List Int) : List Int := ns.map fun z => -z
theorem layAt_neg (ns : List Int) (j : Nat) : layAt (negL ns) j = -layAt ns j := by
  unfold layAt negL
  rw [List.getD_eq_getElem?_getD, List.getD_eq_getElem?_getD, List.getElem?_map]
  cases ns[j]? <;> simp
theorem weigh_neg : ∀ ns : List Int, weigh (negL ns) = -weigh ns
  | [] => rfl
  | a :: r => by
    have ih := weigh_neg r
    show -a + 3 * weigh (negL r) = -(a + 3 * weigh r)
    rw [ih]; omega
theorem parts_neg {ns ms : List Int} {o : Option Nat} (h : PartsAt ns ms o) : PartsAt (negL ns) (negL ms) o := by
  cases o with
  | none => exact fun j => by rw [layAt_neg, layAt_neg, h j]
  | some k => exact ⟨by rw [layAt_neg, layAt_neg]; intro e; exact h.1 (by omega), fun j hj => by rw [layAt_neg, layAt_neg, h.2 j hj]⟩
theorem isF_neg {ns : List Int} (h : IsF ns) : IsF (negL ns) := by
  refine ⟨fun i hi => ?_, fun e => ?_⟩
  · obtain ⟨z, hz, rfl⟩ := List.mem_map.mp hi
    have := h.lays z hz
    omega
  · unfold negL at e
    rw [List.getLast?_map] at e
    cases q : ns.getLast? with
    | none => rw [q] at e; cases e
    | some z =>
      rw [q] at e
      have : z = 0 := by simpa using e
      exact h.last (by rw [q, this])
def partV : Option Nat → V
  | none => .non
  | some k => .int k
def spLayAt : Sp := fun vs H Q _ => ∃ (a : Addr) (ns : List Int) (k : Nat), vs = [.ref a, .int k] ∧ H a = some (.lst (ns.map V.int)) ∧ Q (.int (layAt ns k)) H
def spParting (K : PySem.W.Frag) (CF : Addr) : Sp := fun vs H Q E => ∃ x y, vs = [x, y] ∧ ((∃ ns ms, Good H x ns ∧ Good H y ms ∧ ns.length ≤ 10000 ∧ ms.length ≤ 10000 ∧ ∀ o, PartsAt ns ms o → Q (partV o) H) ∨ (Bad K H x ∧ E (.ref CF) none H) ∨ ∃ ns, Good H x ns ∧ Bad K H y ∧ E (.ref CF) none H)
def spHeavier (K : PySem.W.Frag) (CF : Addr) : Sp := fun vs H Q E => ∃ x y, vs = [x, y] ∧ ((∃ ns ms, Good H x ns ∧ Good H y ms ∧ ns.length ≤ 10000 ∧ ms.length ≤ 10000 ∧ Q (.bl (decide (weigh ms < weigh ns))) H) ∨ (Bad K H x ∧ E (.ref CF) none H) ∨ ∃ ns, Good H x ns ∧ Bad K H y ∧ E (.ref CF) none H)
def spTurned (K : PySem.W.Frag) (CF : Addr) : Sp := fun vs H Q E => ∃ x, vs = [x] ∧ ((∃ ns, Good H x ns ∧ ∀ (p : Addr) (H' : Hp), H p = none → H' p = some (.lst ((negL ns).map V.int)) → Same H H' → Q (.ref p) H') ∨ (Bad K H x ∧ E (.ref CF) none H))

/-! the laws' own defs -/
def spTrimmed : Sp := fun vs H Q _ => ∃ (a : Addr) (ns : List Int), vs = [.ref a] ∧ H a = some (.lst (ns.map V.int)) ∧ (∀ i ∈ ns, -1 ≤ i ∧ i ≤ 1) ∧ ns.length ≤ 10000 ∧ ∀ (p : Addr) (ms : List Int) (H' : Hp), H p = none → H' p = some (.lst (ms.map V.int)) → Same H H' → IsF ms → ms.length ≤ ns.length → Q (.ref p) H'
def spOtherBy : Sp := fun vs H Q _ => ∃ (way : Int) (a b : Addr) (ns ms : List Int) (cell : Int), vs = [.int way, .ref a, .ref b, .int cell] ∧ H a = some (.lst (ns.map V.int)) ∧ IsF ns ∧ ns.length ≤ 1000 ∧ H b = some (.lst (ms.map V.int)) ∧ IsF ms ∧ ms.length ≤ 1000 ∧
  ∀ (p : Addr) (os : List Int) (H' : Hp), H' p = some (.lst (os.map V.int)) → Same H H' → IsF os → os.length ≤ 5000 → Q (.ref p) H'
def spPartsAt : Sp := fun vs H Q _ => ∃ (a b : Addr) (ns ms : List Int), vs = [.ref a, .ref b] ∧ H a = some (.lst (ns.map V.int)) ∧ H b = some (.lst (ms.map V.int)) ∧ ns.length ≤ 10000 ∧ ms.length ≤ 10000 ∧ ∀ o H', PartsAt ns ms o → Same H H' → Q (partV o) H'
def spAsked : Sp := fun vs H Q _ => ∃ (x y : V) (ns ms : List Int) (o : Option Nat), vs = [x, y, partV o, .bl (decide (weigh ms < weigh ns)), .bl (decide (weigh ns < weigh ms))] ∧ Good H x ns ∧ Good H y ms ∧ ns.length ≤ 10000 ∧ ms.length ≤ 10000 ∧ PartsAt ns ms o ∧ ∀ H', Same H H' → Q (.bl true) H'
def spTurnedIs : Sp := fun vs H Q _ => ∃ (a b : Addr) (ms : List Int), vs = [.ref a, .ref b] ∧ H a = some (.lst ((negL ms).map V.int)) ∧ H b = some (.lst (ms.map V.int)) ∧ ms.length ≤ 10000 ∧ Q (.bl true) H
def spRefused3 (K : PySem.W.Frag) : Sp := fun vs H Q _ => ∃ (which : Int) (x y : V) (ns : List Int), vs = [.int which, x, y] ∧ Bad K H x ∧ Good H y ns ∧ ∀ H', Same H H' → Q (.bl true) H'
theorem cut_take {ns : List Int} {k : Nat} (h : k ≤ ns.length) : cutV (ns.map V.int) none (some (k : Int)) = (ns.take k).map V.int := by
  unfold cutV
  rw [List.length_map, HT.sIx_none, HT.sIx_nat, List.drop_zero, Nat.sub_zero, ← List.map_take, Nat.min_eq_left h]

def spIsFormL : Sp := fun vs H Q _ => ∃ x ns, vs = [x] ∧ Good H x ns ∧ Q (.bl true) H
def spWeight : Sp := fun vs H Q _ => ∃ (a : Addr) (ns : List Int), vs = [.ref a] ∧ H a = some (.lst (ns.map V.int)) ∧ Q (.int (weigh ns)) H
def spBack : Sp := fun vs H Q _ => ∃ (n : Int) (x : V) (ns : List Int), vs = [.int n, x] ∧ Good H x ns ∧ weigh ns = n ∧ ns.length ≤ 20000 ∧ Q (.bl true) H
def spRefusedN (K : PySem.W.Frag) : Sp := fun vs H Q _ => ∃ x, vs = [x] ∧ NoInt K H x ∧ ∀ H', Same H H' → Q (.bl true) H'

def spRowIs : Sp := fun vs H Q _ => ∃ (a b : Addr) (ms : List Int), vs = [.ref a, .ref b] ∧ H a = some (.lst (ms.map V.int)) ∧ H b = some (.lst (ms.map V.int)) ∧ ms.length ≤ 10000 ∧ Q (.bl true) H
def spPansAre : Sp := fun vs H Q _ => ∃ (r b c p q : Addr) (ls rs : List Int), vs = [.ref r, .ref b, .ref c] ∧ H r = some (.tup [.ref p, .ref q]) ∧ H p = some (.lst (ls.map V.int)) ∧ H b = some (.lst (ls.map V.int)) ∧ H q = some (.lst (rs.map V.int)) ∧ H c = some (.lst (rs.map V.int)) ∧
  ls.length ≤ 10000 ∧ rs.length ≤ 10000 ∧ Q (.bl true) H
def spBadBy (K : PySem.W.Frag) : Sp := fun vs H Q _ => ∃ (a : Addr) (lays : List Int) (cell : Int), vs = [.ref a, .int cell] ∧ H a = some (.lst (lays.map V.int)) ∧ IsF lays ∧ lays.length ≤ 10000 ∧ ∀ x H', Same H H' → Bad K H' x → Q x H'
def spRefusedB (K : PySem.W.Frag) : Sp := fun vs H Q _ => ∃ x, vs = [x] ∧ Bad K H x ∧ ∀ H', Same H H' → Q (.bl true) H'

def spCell (K : PySem.W.Frag) : Sp := fun vs H Q _ => ∃ (a : Addr) (ns : List Int) (k : Int), vs = [.ref a, .int k] ∧ SqL K H a (ns.map V.int) ∧ 0 ≤ k ∧ ns.length ≤ 63 ∧ ∀ i, Q (.int i) H
def spFormBy (K : PySem.W.Frag) (m : Nat) : Sp := fun vs H Q _ => ∃ (way : Int) (a : Addr) (cells : List Int), vs = [.int way, .ref a] ∧ SqL K H a (cells.map V.int) ∧ cells.length ≤ 63 ∧
  ∀ (p : Addr) (lays : List Int) (H' : Hp), H p = none → H' p = some (.lst (lays.map V.int)) → Same H H' → IsF lays → lays.length ≤ m * 63 → Q (.ref p) H'
def spNone (K : PySem.W.Frag) : Sp := fun vs H Q _ => ∃ (a : Addr) (lays : List Int) (way cell far : Int), vs = [.ref a, .int way, .int cell, .int far] ∧ H a = some (.lst (lays.map V.int)) ∧ IsF lays ∧ lays.length ≤ 10000 ∧ 0 ≤ way ∧ way ≤ 5 ∧ 0 ≤ far ∧
  ∀ x H', Same H H' → Bad K H' x → Q x H'
def spRefused1 (K : PySem.W.Frag) : Sp := fun vs H Q _ => ∃ x, vs = [x] ∧ ((∃ ns, Good H x ns ∧ ns.length ≤ 10000 ∧ Q (.bl false) H) ∨ (Bad K H x ∧ ∀ H', Same H H' → Q (.bl true) H'))
def spLaw (K : PySem.W.Frag) : Sp := fun vs H Q _ => ∃ (a : Addr) (ns : List Int), vs = [.ref a] ∧ SqL K H a (ns.map V.int) ∧ ns.length ≤ 63 ∧ ∀ H', Q (.bl true) H'

/-! small facts -/
theorem at_int {ns : List Int} {i : Nat} {y : V} (h : (ns.map V.int)[i]? = some y) : ∃ z, ns[i]? = some z ∧ y = .int z := by
  rw [List.getElem?_map] at h
  cases e : ns[i]? with
  | none => rw [e] at h; cases h
  | some z => rw [e] at h; exact ⟨z, rfl, (Option.some.inj h).symm⟩
theorem atI_some {α : Type} (xs : List α) {i : Int} (h0 : 0 ≤ i) (h1 : i < xs.length) : ∃ v, atI xs i = some v ∧ v ∈ xs := by
  obtain ⟨j, rfl⟩ := Int.eq_ofNat_of_zero_le h0
  have hj : j < xs.length := by omega
  exact ⟨xs[j], atI_nat (List.getElem?_eq_getElem hj), List.getElem_mem hj⟩
theorem size63 {n : Nat} (h : n ≤ 100000) : n < sizeLine := Nat.lt_of_le_of_lt h (by decide)
theorem upd_keep {H : Hp} {p q : Addr} {o u : HO} (h : H q = some o) (hp : H p = none) : upd H p u q = some o := by rw [upd_ne (ne_of_none h hp)]; exact h
theorem same_new {H : Hp} {p : Addr} {o : HO} (hp : H p = none) : Same H (upd H p o) := fun b u e => by rw [upd_ne (ne_of_none e hp)]; exact e
theorem same_upd {H H2 : Hp} {p : Addr} {o : HO} (s : Same H H2) (hp : H p = none) : Same H (upd H2 p o) := fun b u e => by rw [upd_ne (ne_of_none e hp)]; exact s b u e
theorem tyOf_same {K : PySem.W.Frag} {H H' : Hp} {x : V} {t : Value} (s : Same H H') (h : TyOf K H x t) : TyOf K H' x t := by
  cases h with
  | non => exact .non
  | bl b => exact .bl b
  | int i => exact .int i
  | str y => exact .str y
  | flt y => exact .flt y
  | lst e => exact .lst (s _ _ e)
  | frz e => exact .frz (s _ _ e)
  | tup e => exact .tup (s _ _ e)
  | dK e => exact .dK (s _ _ e)
  | dT e => exact .dT (s _ _ e)
  | ins e a b c d f => exact .ins (s _ _ e) a b c d f
theorem lay_same {K : PySem.W.Frag} {H H' : Hp} {x : V} {b : Bool} (s : Same H H') (h : LayV K H x b) : LayV K H' x b := by
  rcases h with h | ⟨h | ⟨t, ty, ht⟩, e⟩
  · exact .inl h
  · exact .inr ⟨.inl h, e⟩
  · exact .inr ⟨.inr ⟨t, tyOf_same s ty, ht⟩, e⟩
theorem bad_same {K : PySem.W.Frag} {H H' : Hp} {x : V} (s : Same H H') (h : Bad K H x) : Bad K H' x := by
  rcases h with ⟨t, ty, ht⟩ | ⟨b, xs, e, hx, hb, hok⟩
  · exact .inl ⟨t, tyOf_same s ty, ht⟩
  · refine .inr ⟨b, xs, e, s _ _ hx, ?_, hok⟩
    rcases hb with ⟨pre, y, post, e1, e2, e3⟩ | hb
    · exact .inl ⟨pre, y, post, e1, e2, lay_same s e3⟩
    · exact .inr hb
theorem cut_ints (ns : List Int) (lo hi : Option Int) : ∃ ms : List Int, cutV (ns.map V.int) lo hi = ms.map V.int ∧ (∀ i ∈ ms, i ∈ ns) ∧ ms.length ≤ ns.length := by
  unfold cutV
  rw [List.length_map, ← List.map_drop, ← List.map_take]
  exact ⟨_, rfl, fun i hi => List.mem_of_mem_drop (List.mem_of_mem_take hi), by rw [List.length_take, List.length_drop]; omega⟩
/-- len(x) == 0 or x[-1] != 0, of a form's lays -/
theorem form_end {ns : List Int} {a : Addr} {H : Hp} {v : Option V} (K : PySem.W.Frag) (Q : VK) (ha : H a = some (.lst (ns.map V.int))) (hl : ns.getLast? ≠ some 0) (k : Q (.bl true) H) :
    tOrV (tOp rEq (tCB (fun xs H Q => ∃ p ys, xs = [.ref p] ∧ (SqL K H p ys ∨ SqT K H p ys) ∧ Q (.int ys.length) H) (tCons (tVar 0) tNil)) (tC (.int 0)))
      (tOp rNe (tOp (rIxL K) (tVar 0) (tUn (rU fun i => .int (-i)) (tC (.int 1)))) (tC (.int 0))) [some (.ref a), v] H Q := by
  refine ⟨_, rfl, a, _, rfl, .inl (SqL.of ha), rfl, _, rfl, ?_⟩
  rcases List.eq_nil_or_concat ns with rfl | ⟨r, z, rfl⟩
  · exact iteT k
  · rw [List.concat_eq_append] at *
    have len0 : ¬ (V.int (((r ++ [z]).map V.int).length : Nat) = V.int 0) := by
      intro q
      injection q with q
      simp at q
      omega
    rw [decide_eq_false len0]
    refine iteF ⟨_, rfl, 1, rfl, a, _, -1, .int z, rfl, rfl, SqL.of ha, ?_, rfl, ?_⟩
    · rw [List.map_append]
      exact atI_last _ _
    · have nz : ¬ (V.int z = V.int 0) := by
        intro q
        injection q with q
        exact hl (by rw [q]; simp)
      show Q (.bl (!decide (V.int z = V.int 0))) H
      rw [decide_eq_false nz]
      exact k

/-! the text's names -/
structure Txt (K : PySem.W.Frag) (mg : Str → Option Value) (CS CF CN CT CP : Addr) : Prop where
  isi : mg "isinstance" = none
  int : mg "int" = none
  bool : mg "bool" = none
  list : mg "list" = none
  tuple : mg "tuple" = none
  len : mg "len" = none
  range : mg "range" = none
  reversed : mg "reversed" = none
  max : mg "max" = none
  verr : mg "ValueError" = none
  abs : mg "abs" = none
  str : mg "str" = none
  min : mg "min" = none
  zip : mg "zip" = none
  enumerate : mg "enumerate" = none
  mS : mg "ScaleError" = some (.ref CS)
  mF : mg "NoForm" = some (.ref CF)
  mN : mg "NoNumber" = some (.ref CN)
  mT : mg "NoText" = some (.ref CT)
  mP : mg "NoPlace" = some (.ref CP)
  xF : PySem.W.excIn K CF [.type "ValueError", .type "Exception", .type "BaseException", .type "object"] "ValueError.__new__" = true
  xN : PySem.W.excIn K CN [.type "ValueError", .type "Exception", .type "BaseException", .type "object"] "ValueError.__new__" = true
  xT : PySem.W.excIn K CT [.type "ValueError", .type "Exception", .type "BaseException", .type "object"] "ValueError.__new__" = true
  xP : PySem.W.excIn K CP [.type "ValueError", .type "Exception", .type "BaseException", .type "object"] "ValueError.__new__" = true
  mmF : PySem.W.exmOne K (.ref CF) (.ref CS) = some true
  mmN : PySem.W.exmOne K (.ref CN) (.ref CS) = some true
  mmT : PySem.W.exmOne K (.ref CT) (.ref CS) = some true
  mmP : PySem.W.exmOne K (.ref CP) (.ref CS) = some true
  cF : ExcCls K CF
  cN : ExcCls K CN
  cT : ExcCls K CT
  cP : ExcCls K CP
  kFF : PySem.W.kitOne K (.ref CF) (.ref CF) = some true
  kFN : PySem.W.kitOne K (.ref CF) (.ref CN) = some false
  kFT : PySem.W.kitOne K (.ref CF) (.ref CT) = some false
  kFP : PySem.W.kitOne K (.ref CF) (.ref CP) = some false
  kFV : PySem.W.kitOne K (.ref CF) (.type "ValueError") = some true
  kNF : PySem.W.kitOne K (.ref CN) (.ref CF) = some false
  kNN : PySem.W.kitOne K (.ref CN) (.ref CN) = some true
  kNT : PySem.W.kitOne K (.ref CN) (.ref CT) = some false
  kNP : PySem.W.kitOne K (.ref CN) (.ref CP) = some false
  kNV : PySem.W.kitOne K (.ref CN) (.type "ValueError") = some true
  kTF : PySem.W.kitOne K (.ref CT) (.ref CF) = some false
  kTN : PySem.W.kitOne K (.ref CT) (.ref CN) = some false
  kTT : PySem.W.kitOne K (.ref CT) (.ref CT) = some true
  kTP : PySem.W.kitOne K (.ref CT) (.ref CP) = some false
  kTV : PySem.W.kitOne K (.ref CT) (.type "ValueError") = some true
  kPF : PySem.W.kitOne K (.ref CP) (.ref CF) = some false
  kPN : PySem.W.kitOne K (.ref CP) (.ref CN) = some false
  kPT : PySem.W.kitOne K (.ref CP) (.ref CT) = some false
  kPP : PySem.W.kitOne K (.ref CP) (.ref CP) = some true
  kPV : PySem.W.kitOne K (.ref CP) (.type "ValueError") = some true

/-- a def of the text as it stands behind the top -/
def DefAt (K : PySem.W.Frag) (mg : Str → Option Value) (x : Str) (st : Stmt) : Prop := ∃ f fd, Fun K x x st f fd ∧ mg x = some (.ref f)
/-- a def with its promise, as a caller needs it -/
def Callee (P : Program) (w : World) (K : PySem.W.Frag) (mg : Str → Option Value) (base : Heap) (k : Nat) (x : Str) (ps : List Str) (sp : Sp) : Prop :=
  ∃ f fd, FnOk P w K mg base (CX1 P w) k f fd ps sp ∧ mg x = some (.ref f) ∧ PySem.W.keepIn K (.ref f) = true ∧ Binds K fd ps []
section
variable {P : Program} {w : World} {K : PySem.W.Frag} {mg : Str → Option Value} {base : Heap}
theorem def_mk {h : Heap} {x : Str} {st : Stmt} {f : Addr} {oc : Value} {od an : Option Addr} {osl : Array (Option Value)} {kV doc pm cdv ct : Value} (X : K.In h) (G : h.Ns mainGlobals mg) (a : PySem.W.nsIn K mainGlobals x = some (some (.ref f)))
    (l : K.lookup f = some ⟨oc, od, .func (PySem.W.fnOf x x (defArgs st) (defBody st) (defScope st) .none kV doc pm an cdv ct), osl⟩) (c : PySem.W.codeIn K cdv x = true) (k : PySem.W.keepIn K (.ref f) = true) : DefAt K mg x st :=
  ⟨f, _, fun_mk l c k, PySem.W.mg_of X G a⟩
/-- a def by its body -/
theorem fn_ok {x : Str} {st : Stmt} {f : Addr} {fd : FuncData} {N ps : List Str} {k : Nat} {sp : Sp} (F : Fun K x x st f fd) (S : FnScope N ps (defScope st)) (len : ∀ vs H Q E, sp vs H Q E → vs.length = ps.length)
    (hbody : ∀ (f : Addr) (cdv : Value) (A : Around) (outer : List Env) (s : Shared) (H : Hp) (vs : List V) (Q : VK) (E : XK), Room k (A.deeper (envOfC x (defScope st) s.heap.objs.size f cdv)) → sp vs H Q E →
      ∃ t, QSs (cxOf (CX1 P w) P w K mg base N x (defScope st) f cdv A outer s H E) (defBody st) t ∧ t { nx := fun _ H' => Q .non H', rt := Q } (start N vs) H) : FnOk P w K mg base (CX1 P w) (k + 1) f fd ps sp := by
  obtain ⟨oc, od, kV, doc, pm, an, cdv, ct, osl, rfl, lk, hcd⟩ := F.ex
  refine fn_of lk hcd S len fun A outer s H vs Q E hr hsp => ?_
  obtain ⟨t, h1, h2⟩ := hbody f cdv A outer s H vs Q E hr hsp
  exact ⟨t, h1.to, h2⟩
theorem callee_of {x : Str} {st : Stmt} {N ps : List Str} {k : Nat} {sp : Sp} (D : DefAt K mg x st) (S : FnScope N ps (defScope st)) (len : ∀ vs H Q E, sp vs H Q E → vs.length = ps.length)
    (hb : ∀ (kV doc pm : Value) (an : Option Addr) (cdv ct : Value) (us : List Value), us.length = ps.length → bindArgs (PySem.W.fnOf x x (defArgs st) (defBody st) (defScope st) .none kV doc pm an cdv ct) ⟨us, []⟩ = pure (ps.zip us))
    (hbody : ∀ (f : Addr) (cdv : Value) (A : Around) (outer : List Env) (s : Shared) (H : Hp) (vs : List V) (Q : VK) (E : XK), Room k (A.deeper (envOfC x (defScope st) s.heap.objs.size f cdv)) → sp vs H Q E →
      ∃ t, QSs (cxOf (CX1 P w) P w K mg base N x (defScope st) f cdv A outer s H E) (defBody st) t ∧ t { nx := fun _ H' => Q .non H', rt := Q } (start N vs) H) : Callee P w K mg base (k + 1) x ps sp := by
  obtain ⟨f, fd, F, hm⟩ := D
  exact ⟨f, fd, fn_ok F S len hbody, hm, F.kp, F.binds hb⟩
/-- .. where nothing leaves but by return -/
theorem callee_nox {x : Str} {st : Stmt} {N ps : List Str} {k : Nat} {sp : Sp} (D : DefAt K mg x st) (S : FnScope N ps (defScope st)) (len : ∀ vs H Q E, sp vs H Q E → vs.length = ps.length)
    (hb : ∀ (kV doc pm : Value) (an : Option Addr) (cdv ct : Value) (us : List Value), us.length = ps.length → bindArgs (PySem.W.fnOf x x (defArgs st) (defBody st) (defScope st) .none kV doc pm an cdv ct) ⟨us, []⟩ = pure (ps.zip us))
    (hbody : ∀ (f : Addr) (cdv : Value) (A : Around) (outer : List Env) (s : Shared) (H : Hp) (vs : List V) (Q : VK) (E : XK), Room k (A.deeper (envOfC x (defScope st) s.heap.objs.size f cdv)) → sp vs H Q E →
      ∃ t, QSs (cxOf (CX1 P w) P w K mg base N x (defScope st) f cdv A outer s H E).nox (defBody st) t ∧ t { nx := fun _ H' => Q .non H', rt := Q } (start N vs) H) : Callee P w K mg base (k + 1) x ps sp :=
  callee_of D S len hb fun f cdv A outer s H vs Q E hr hsp => by
    obtain ⟨t, h, q⟩ := hbody f cdv A outer s H vs Q E hr hsp
    exact ⟨t, qss_nox h, q⟩
theorem fn_nox {x : Str} {st : Stmt} {f : Addr} {fd : FuncData} {N ps : List Str} {k : Nat} {sp : Sp} (F : Fun K x x st f fd) (S : FnScope N ps (defScope st)) (len : ∀ vs H Q E, sp vs H Q E → vs.length = ps.length)
    (hbody : ∀ (f : Addr) (cdv : Value) (A : Around) (outer : List Env) (s : Shared) (H : Hp) (vs : List V) (Q : VK) (E : XK), Room k (A.deeper (envOfC x (defScope st) s.heap.objs.size f cdv)) → sp vs H Q E →
      ∃ t, QSs (cxOf (CX1 P w) P w K mg base N x (defScope st) f cdv A outer s H E).nox (defBody st) t ∧ t { nx := fun _ H' => Q .non H', rt := Q } (start N vs) H) : FnOk P w K mg base (CX1 P w) (k + 1) f fd ps sp :=
  fn_ok F S len fun f cdv A outer s H vs Q E hr hsp => by
    obtain ⟨t, h, q⟩ := hbody f cdv A outer s H vs Q E hr hsp
    exact ⟨t, qss_nox h, q⟩
theorem law_binds {x : Str} {st : Stmt} {f : Addr} {fd : FuncData} {p : Str} (F : Fun K x x st f fd)
    (hb : ∀ (kV doc pm : Value) (an : Option Addr) (cdv ct : Value) (us : List Value), us.length = [p].length → bindArgs (PySem.W.fnOf x x (defArgs st) (defBody st) (defScope st) .none kV doc pm an cdv ct) ⟨us, []⟩ = pure ([p].zip us)) : ∀ (s : Shared) (u : Value), BindsTo s fd ⟨[u], []⟩ [(p, u)] := by
  obtain ⟨oc, od, kV, doc, pm, an, cdv, ct, osl, rfl, lk, hcd⟩ := F.ex
  exact fun s u => .of_eq (hb kV doc pm an cdv ct [u] rfl)
theorem Callee.mono {j k : Nat} {x : Str} {ps : List Str} {sp : Sp} (C : Callee P w K mg base j x ps sp) (h : j ≤ k) : Callee P w K mg base k x ps sp := by
  obtain ⟨f, fd, F, r⟩ := C
  exact ⟨f, fd, F.mono h, r⟩
theorem exm_of {CF CS : Addr} (h1 : PySem.W.mroIn K CS (.type "BaseException") = some true) (h2 : PySem.W.kitOne K (.ref CF) (.ref CS) = some true) (hne : (Value.ref CF == Value.ref CS) = false) : PySem.W.exmOne K (.ref CF) (.ref CS) = some true := by
  have h1' : PySem.W.subIn K (.ref CS) (.type "BaseException") = some true := h1
  unfold PySem.W.exmOne
  rw [h1', if_pos (by rfl)]
  unfold PySem.W.kitOne at h2
  rw [if_neg (by rw [hne]; exact Bool.false_ne_true)] at h2
  exact h2
theorem txt_mk {h : Heap} {CS CF CN CT CP : Addr} {dF dN dT dP : ClassData} (X : K.In h) (G : h.Ns mainGlobals mg)
    (b1 : PySem.W.nsIn K mainGlobals "isinstance" = some none) (b2 : PySem.W.nsIn K mainGlobals "int" = some none) (b3 : PySem.W.nsIn K mainGlobals "bool" = some none) (b4 : PySem.W.nsIn K mainGlobals "list" = some none) (b5 : PySem.W.nsIn K mainGlobals "tuple" = some none) (b6 : PySem.W.nsIn K mainGlobals "len" = some none) (b7 : PySem.W.nsIn K mainGlobals "range" = some none) (b8 : PySem.W.nsIn K mainGlobals "reversed" = some none) (b9 : PySem.W.nsIn K mainGlobals "max" = some none) (b10 : PySem.W.nsIn K mainGlobals "ValueError" = some none) (b11 : PySem.W.nsIn K mainGlobals "abs" = some none) (b12 : PySem.W.nsIn K mainGlobals "str" = some none) (b13 : PySem.W.nsIn K mainGlobals "min" = some none) (b14 : PySem.W.nsIn K mainGlobals "zip" = some none) (b15 : PySem.W.nsIn K mainGlobals "enumerate" = some none) 
    (m1 : PySem.W.nsIn K mainGlobals "ScaleError" = some (some (.ref CS))) (m2 : PySem.W.nsIn K mainGlobals "NoForm" = some (some (.ref CF))) (m3 : PySem.W.nsIn K mainGlobals "NoNumber" = some (some (.ref CN))) (m4 : PySem.W.nsIn K mainGlobals "NoText" = some (some (.ref CT))) (m5 : PySem.W.nsIn K mainGlobals "NoPlace" = some (some (.ref CP))) 
    (x1 : PySem.W.excIn K CF [.type "ValueError", .type "Exception", .type "BaseException", .type "object"] "ValueError.__new__" = true) (x2 : PySem.W.excIn K CN [.type "ValueError", .type "Exception", .type "BaseException", .type "object"] "ValueError.__new__" = true) (x3 : PySem.W.excIn K CT [.type "ValueError", .type "Exception", .type "BaseException", .type "object"] "ValueError.__new__" = true) (x4 : PySem.W.excIn K CP [.type "ValueError", .type "Exception", .type "BaseException", .type "object"] "ValueError.__new__" = true) 
    (e0 : PySem.W.mroIn K CS (.type "BaseException") = some true)
    (e1 : PySem.W.kitOne K (.ref CF) (.ref CS) = some true) (n1 : (Value.ref CF == Value.ref CS) = false)
    (e2 : PySem.W.kitOne K (.ref CN) (.ref CS) = some true) (n2 : (Value.ref CN == Value.ref CS) = false)
    (e3 : PySem.W.kitOne K (.ref CT) (.ref CS) = some true) (n3 : (Value.ref CT == Value.ref CS) = false)
    (e4 : PySem.W.kitOne K (.ref CP) (.ref CS) = some true) (n4 : (Value.ref CP == Value.ref CS) = false)
    (f1 : PySem.W.clsIn K CF = some dF) (f2 : PySem.W.findIn K (.ref CF) "__getattribute__" = some (some (.builtin "BaseException.__getattribute__"))) (f3 : PySem.W.findIn K (.ref CF) "__getattr__" = some none) (f4 : PySem.W.findIn K (.ref CF) "__class__" = some (some (.builtin "object.__class__")))
    (f5 : PySem.W.mroIn K CF (.type "object") = some true) (f6 : PySem.W.mroIn K CF (.type "BaseException") = some true)
    (g1 : PySem.W.clsIn K CN = some dN) (g2 : PySem.W.findIn K (.ref CN) "__getattribute__" = some (some (.builtin "BaseException.__getattribute__"))) (g3 : PySem.W.findIn K (.ref CN) "__getattr__" = some none) (g4 : PySem.W.findIn K (.ref CN) "__class__" = some (some (.builtin "object.__class__")))
    (g5 : PySem.W.mroIn K CN (.type "object") = some true) (g6 : PySem.W.mroIn K CN (.type "BaseException") = some true)
    (h1 : PySem.W.clsIn K CT = some dT) (h2 : PySem.W.findIn K (.ref CT) "__getattribute__" = some (some (.builtin "BaseException.__getattribute__"))) (h3 : PySem.W.findIn K (.ref CT) "__getattr__" = some none) (h4 : PySem.W.findIn K (.ref CT) "__class__" = some (some (.builtin "object.__class__")))
    (h5 : PySem.W.mroIn K CT (.type "object") = some true) (h6 : PySem.W.mroIn K CT (.type "BaseException") = some true)
    (j1 : PySem.W.clsIn K CP = some dP) (j2 : PySem.W.findIn K (.ref CP) "__getattribute__" = some (some (.builtin "BaseException.__getattribute__"))) (j3 : PySem.W.findIn K (.ref CP) "__getattr__" = some none) (j4 : PySem.W.findIn K (.ref CP) "__class__" = some (some (.builtin "object.__class__")))
    (j5 : PySem.W.mroIn K CP (.type "object") = some true) (j6 : PySem.W.mroIn K CP (.type "BaseException") = some true)
    (k1 : PySem.W.kitOne K (.ref CF) (.ref CF) = some true)
    (k2 : PySem.W.kitOne K (.ref CF) (.ref CN) = some false)
    (k3 : PySem.W.kitOne K (.ref CF) (.ref CT) = some false)
    (k4 : PySem.W.kitOne K (.ref CF) (.ref CP) = some false)
    (k5 : PySem.W.kitOne K (.ref CF) (.type "ValueError") = some true)
    (k6 : PySem.W.kitOne K (.ref CN) (.ref CF) = some false)
    (k7 : PySem.W.kitOne K (.ref CN) (.ref CN) = some true)
    (k8 : PySem.W.kitOne K (.ref CN) (.ref CT) = some false)
    (k9 : PySem.W.kitOne K (.ref CN) (.ref CP) = some false)
    (k10 : PySem.W.kitOne K (.ref CN) (.type "ValueError") = some true)
    (k11 : PySem.W.kitOne K (.ref CT) (.ref CF) = some false)
    (k12 : PySem.W.kitOne K (.ref CT) (.ref CN) = some false)
    (k13 : PySem.W.kitOne K (.ref CT) (.ref CT) = some true)
    (k14 : PySem.W.kitOne K (.ref CT) (.ref CP) = some false)
    (k15 : PySem.W.kitOne K (.ref CT) (.type "ValueError") = some true)
    (k16 : PySem.W.kitOne K (.ref CP) (.ref CF) = some false)
    (k17 : PySem.W.kitOne K (.ref CP) (.ref CN) = some false)
    (k18 : PySem.W.kitOne K (.ref CP) (.ref CT) = some false)
    (k19 : PySem.W.kitOne K (.ref CP) (.ref CP) = some true)
    (k20 : PySem.W.kitOne K (.ref CP) (.type "ValueError") = some true) :
    Txt K mg CS CF CN CT CP where
  isi := PySem.W.mg_none_of X G b1
  int := PySem.W.mg_none_of X G b2
  bool := PySem.W.mg_none_of X G b3
  list := PySem.W.mg_none_of X G b4
  tuple := PySem.W.mg_none_of X G b5
  len := PySem.W.mg_none_of X G b6
  range := PySem.W.mg_none_of X G b7
  reversed := PySem.W.mg_none_of X G b8
  max := PySem.W.mg_none_of X G b9
  verr := PySem.W.mg_none_of X G b10
  abs := PySem.W.mg_none_of X G b11
  str := PySem.W.mg_none_of X G b12
  min := PySem.W.mg_none_of X G b13
  zip := PySem.W.mg_none_of X G b14
  enumerate := PySem.W.mg_none_of X G b15
  mS := PySem.W.mg_of X G m1
  mF := PySem.W.mg_of X G m2
  mN := PySem.W.mg_of X G m3
  mT := PySem.W.mg_of X G m4
  mP := PySem.W.mg_of X G m5
  xF := x1
  xN := x2
  xT := x3
  xP := x4
  mmF := exm_of e0 e1 n1
  mmN := exm_of e0 e2 n2
  mmT := exm_of e0 e3 n3
  mmP := exm_of e0 e4 n4
  cF := ⟨by rw [f1]; rfl, f2, f3, f4, f5, f6⟩
  cN := ⟨by rw [g1]; rfl, g2, g3, g4, g5, g6⟩
  cT := ⟨by rw [h1]; rfl, h2, h3, h4, h5, h6⟩
  cP := ⟨by rw [j1]; rfl, j2, j3, j4, j5, j6⟩
  kFF := k1
  kFN := k2
  kFT := k3
  kFP := k4
  kFV := k5
  kNF := k6
  kNN := k7
  kNT := k8
  kNP := k9
  kNV := k10
  kTF := k11
  kTN := k12
  kTT := k13
  kTP := k14
  kTV := k15
  kPF := k16
  kPN := k17
  kPT := k18
  kPP := k19
  kPV := k20
theorem walk {l : PySem.W.OpenLaw} {q : Program} {loose : List Str} {XP : (Str → Option Value) → Heap → Prop} {YP : World → Heap → Prop} {d : DefRec} {K : Params → PySem.W.Frag} {k : Nat} (hn : l.most = some 63) (hdf : d.params.defaults = []) (hr : Room k callerA)
    (hY : ∀ (w : World) (h : Heap), YP w h → (K w.params).In h)
    (F : ∀ (w : World) (mg : Str → Option Value) (fa : Addr) (h : Heap), (K w.params).In h → h.Ns mainGlobals mg → mg d.name = some (.ref fa) →
      ∃ fd : FuncData, (∀ (s : Shared) (u : Value), BindsTo s fd ⟨[u], []⟩ [("_law_script", u)]) ∧ ∀ base : Heap, (K w.params).In base → base.Ns mainGlobals mg → FnOk l.prog w (K w.params) mg base (CX1 l.prog w) k fa fd ["_law_script"] (spLaw (K w.params))) :
    PySem.W.WalkO q loose XP YP l.row.toRowW d [] (fun f vs => PySem.call f vs) :=
  L2.walk_of (n := 63) (k := k) (x := "_law_script") (CX := fun w => CX1 l.prog w) (sp := fun w => spLaw (K w.params)) hn (by decide) hdf hr hY F (fun _ _ a ns hl _ hS => ⟨a, ns, rfl, hS, hl, fun _ => rfl⟩)
    fun _ _ _ _ _ z => by
      obtain ⟨_, _, _, _, _, _, _, _, e⟩ := z
      exact e.elim
end
section
variable {X : Cx} {k : Nat} {ps : List Str} {sp : Sp} {E : XK} {x : Str} {p pos : Pos} {e : Expr} {es : List Expr} {t : TA}
/-- f(e, ..) of a def of the text -/
theorem qe_def (C : Callee X.prog X.w X.K X.mg X.base k x ps sp) (hr : Room k X.A) (hx : QPass X E) (ha : QA X (e :: es) t) (hg : Gl X x := by rfl) (hdb : (x == ("__debug__" : Str)) = false := by decide) (hs : noStars (e :: es) = true := by rfl) :
    QE X (.Call (.Name x p) (e :: es) [] pos) (tCall sp [] E t) := by
  obtain ⟨f, fd, F, hm, hk, hb⟩ := C
  have h' : notStar e = true ∧ noStars es = true := by simpa [noStars] using hs
  exact .of (pe_call F hr hg hm hk hb .nil hx.to ha.to hdb (star_of h'.1) (noStars_any h'.2))
end
end Pk
/-! stage 2: sums by carries; halves; parts -/
namespace Pk
open PySem PySem.Spec PyProof.Rows L2
/-- the carry that comes into a place -/
def carry (ns ms : List Int) : Nat → Int
  | 0 => 0
  | j + 1 => (layAt ns j + layAt ms j + carry ns ms j + 1) / 3
def sumLay (ns ms : List Int) (j : Nat) : Int := layAt ns j + layAt ms j + carry ns ms j - 3 * carry ns ms (j + 1)
theorem carry_range {ns ms : List Int} (h : ∀ i ∈ ns, -1 ≤ i ∧ i ≤ 1) (g : ∀ i ∈ ms, -1 ≤ i ∧ i ≤ 1) : ∀ j, -1 ≤ carry ns ms j ∧ carry ns ms j ≤ 1
  | 0 => ⟨show (-1 : Int) ≤ 0 by decide, show (0 : Int) ≤ 1 by decide⟩
  | j + 1 => by
    have ih := carry_range h g j
    have h1 := layAt_range h j
    have h2 := layAt_range g j
    show -1 ≤ (layAt ns j + layAt ms j + carry ns ms j + 1) / 3 ∧ (layAt ns j + layAt ms j + carry ns ms j + 1) / 3 ≤ 1
    omega
theorem sumLay_range {ns ms : List Int} (j : Nat) : -1 ≤ sumLay ns ms j ∧ sumLay ns ms j ≤ 1 := by
  have e : carry ns ms (j + 1) = (layAt ns j + layAt ms j + carry ns ms j + 1) / 3 := rfl
  unfold sumLay
  rw [e]
  omega
/-- what lays weigh up to a place -/
def wsum (f : Nat → Int) : Nat → Int
  | 0 => 0
  | n + 1 => wsum f n + f n * 3 ^ n
theorem weigh_map (f : Nat → Int) : ∀ n, weigh ((List.range n).map f) = wsum f n
  | 0 => rfl
  | n + 1 => by
    rw [List.range_succ, List.map_append]
    show weigh (_ ++ [f n]) = _
    rw [weigh_snoc, weigh_map f n, List.length_map, List.length_range]
    rfl
theorem wsum_lay : ∀ {n : Nat} {ns : List Int}, ns.length ≤ n → wsum (layAt ns) n = weigh ns := by
  intro n ns h
  rw [← weigh_map]
  refine weigh_congr _ _ _ (Nat.le_refl _) fun j => ?_
  by_cases hj : j < n
  · rw [layAt_get (z := layAt ns j)]
    rw [List.getElem?_map, List.getElem?_range hj]; rfl
  · rw [layAt_le (by simp; omega), layAt_le (by omega)]
theorem wsum_carry (ns ms : List Int) : ∀ n, wsum (sumLay ns ms) n + carry ns ms n * 3 ^ n = wsum (layAt ns) n + wsum (layAt ms) n
  | 0 => by simp [wsum, carry]
  | n + 1 => by
    have ih := wsum_carry ns ms n
    show wsum (sumLay ns ms) n + sumLay ns ms n * 3 ^ n + carry ns ms (n + 1) * 3 ^ (n + 1) = wsum (layAt ns) n + layAt ns n * 3 ^ n + (wsum (layAt ms) n + layAt ms n * 3 ^ n)
    have e0 : sumLay ns ms n = layAt ns n + layAt ms n + carry ns ms n - 3 * carry ns ms (n + 1) := rfl
    rw [e0, Int.pow_succ]
    generalize carry ns ms (n + 1) = d at *
    generalize carry ns ms n = c at *
    generalize layAt ns n = a at *
    generalize layAt ms n = b at *
    generalize (3 : Int) ^ n = t at *
    have e : (a + b + c - 3 * d) * t + d * (t * 3) = a * t + b * t + c * t := by
      rw [Int.sub_mul, Int.add_mul, Int.add_mul, ← Int.mul_assoc d, Int.mul_comm (d * t) 3, Int.mul_assoc 3 d t]
      omega
    omega
/-- the lays of a sum, with the last carry -/
def sumL (ns ms : List Int) (L : Nat) : List Int := (List.range L).map (sumLay ns ms) ++ [carry ns ms L]
theorem sumL_weigh {ns ms : List Int} {L : Nat} (h1 : ns.length ≤ L) (h2 : ms.length ≤ L) : weigh (sumL ns ms L) = weigh ns + weigh ms := by
  unfold sumL
  rw [weigh_snoc, weigh_map, List.length_map, List.length_range, wsum_carry, wsum_lay h1, wsum_lay h2]
theorem sumL_range {ns ms : List Int} (h : ∀ i ∈ ns, -1 ≤ i ∧ i ≤ 1) (g : ∀ i ∈ ms, -1 ≤ i ∧ i ≤ 1) (L : Nat) : ∀ i ∈ sumL ns ms L, -1 ≤ i ∧ i ≤ 1 := by
  intro i hi
  rcases List.mem_append.mp hi with hi | hi
  · obtain ⟨j, _, rfl⟩ := List.mem_map.mp hi
    exact sumLay_range j
  · have e : i = carry ns ms L := by simpa using hi
    rw [e]; exact carry_range h g L
theorem sumL_lay {ns ms : List Int} {L j : Nat} (hj : j < L) : layAt (sumL ns ms L) j = sumLay ns ms j := by
  refine layAt_get ?_
  unfold sumL
  rw [List.getElem?_append_left (by simpa using hj), List.getElem?_map, List.getElem?_range hj]
  rfl
theorem sumL_last {ns ms : List Int} {L : Nat} : layAt (sumL ns ms L) L = carry ns ms L := by
  refine layAt_get ?_
  unfold sumL
  rw [List.getElem?_append_right (by simp)]
  simp
/-- lays without the noughts at their end -/
theorem trims : ∀ (k : Nat) {ns : List Int}, ns.length = k → (∀ i ∈ ns, -1 ≤ i ∧ i ≤ 1) → ∃ ts, IsF ts ∧ weigh ts = weigh ns ∧ (∀ j, layAt ts j = layAt ns j) ∧ ts.length ≤ ns.length
  | 0, ns, hk, h => by
    have e : ns = [] := List.length_eq_zero_iff.mp hk
    subst e
    exact ⟨[], ⟨(fun _ h => nomatch h), (fun h => nomatch h)⟩, rfl, fun _ => rfl, Nat.le_refl _⟩
  | k + 1, ns, hk, h => by
    rcases List.eq_nil_or_concat ns with rfl | ⟨q, z, rfl⟩
    · cases hk
    · rw [List.concat_eq_append] at *
      by_cases hz : z = 0
      · subst hz
        obtain ⟨ts, h1, h2, h3, h4⟩ := trims k (ns := q) (by simpa using hk) fun i hi => h i (List.mem_append_left _ hi)
        have el : ∀ j, layAt (q ++ [0]) j = layAt q j := fun j => by
          by_cases hj : j < q.length
          · rw [layAt_get (List.getElem?_eq_getElem hj)]
            refine layAt_get ?_
            rw [List.getElem?_append_left hj, List.getElem?_eq_getElem hj]
          · rw [layAt_le (ns := q) (by omega)]
            by_cases e : j = q.length
            · subst e
              exact layAt_get (by simp)
            · exact layAt_le (by simp; omega)
        refine ⟨ts, h1, ?_, fun j => by rw [h3, el], by simp; omega⟩
        rw [h2, weigh_snoc]; omega
      · exact ⟨_, ⟨h, by simpa using hz⟩, rfl, fun _ => rfl, Nat.le_refl _⟩
/-- the form of a sum, lay by lay -/
theorem sum_lays {ns ms os : List Int} {L : Nat} (hn : IsF ns) (hm : IsF ms) (ho : IsF os) (h1 : ns.length ≤ L) (h2 : ms.length ≤ L) (hw : weigh os = weigh ns + weigh ms) : os.length ≤ L + 1 ∧ (∀ j, j < L → layAt ns j + layAt ms j + carry ns ms j = layAt os j + 3 * carry ns ms (j + 1)) ∧ layAt os L = carry ns ms L := by
  obtain ⟨ts, t1, t2, t3, t4⟩ := trims _ (ns := sumL ns ms L) rfl (sumL_range hn.lays hm.lays L)
  have e : os = ts := weigh_inj ho t1 (by rw [hw, t2, sumL_weigh h1 h2])
  subst e
  refine ⟨?_, fun j hj => ?_, ?_⟩
  · have : (sumL ns ms L).length = L + 1 := by unfold sumL; simp
    omega
  · rw [t3, sumL_lay hj]
    unfold sumLay
    omega
  · rw [t3, sumL_last]
def outL (ns ms : List Int) (L : Nat) : List Int := (List.range L).map fun j => carry ns ms (j + 1)
/-- the longer one's length -/
def mx (ns ms : List Int) : Nat := if ms.length > ns.length then ms.length else ns.length
theorem mx_l (ns ms : List Int) : ns.length ≤ mx ns ms := by unfold mx; split <;> omega
theorem mx_r (ns ms : List Int) : ms.length ≤ mx ns ms := by unfold mx; split <;> omega
theorem mx_le {ns ms : List Int} {k : Nat} (h : ns.length ≤ k) (g : ms.length ≤ k) : mx ns ms ≤ k := by unfold mx; split <;> omega
theorem mx_int (ns ms : List Int) : (if (((ms.map V.int).length : Nat) : Int) > ((ns.map V.int).length : Nat) then (((ms.map V.int).length : Nat) : Int) else ((ns.map V.int).length : Nat)) = (mx ns ms : Int) := by
  rw [List.length_map, List.length_map]
  unfold mx
  by_cases h : ms.length > ns.length
  · rw [if_pos h, if_pos (by omega)]
  · rw [if_neg h, if_neg (by omega)]
/-- what is no form at one of two places: refused -/
def Refuses2 (K : PySem.W.Frag) (CF : Addr) (x y : V) (H : Hp) (E : XK) : Prop := (Bad K H x ∧ E (.ref CF) none H) ∨ ∃ ns, Good H x ns ∧ Bad K H y ∧ E (.ref CF) none H
def spAdded (K : PySem.W.Frag) (CF : Addr) : Sp := fun vs H Q E => ∃ x y, vs = [x, y] ∧ ((∃ ns ms, Good H x ns ∧ Good H y ms ∧ ns.length ≤ 10000 ∧ ms.length ≤ 10000 ∧ ∀ (p : Addr) (os : List Int) (H' : Hp), H p = none → H' p = some (.lst (os.map V.int)) → Same H H' → IsF os → weigh os = weigh ns + weigh ms → os.length ≤ mx ns ms + 1 → Q (.ref p) H') ∨ Refuses2 K CF x y H E)
def spCarries (K : PySem.W.Frag) (CF : Addr) : Sp := fun vs H Q E => ∃ x y, vs = [x, y] ∧ ((∃ ns ms, Good H x ns ∧ Good H y ms ∧ ns.length ≤ 10000 ∧ ms.length ≤ 10000 ∧ ∀ (p : Addr) (H' : Hp), H p = none → H' p = some (.lst ((outL ns ms (mx ns ms)).map V.int)) → Same H H' → Q (.ref p) H') ∨ Refuses2 K CF x y H E)
def spMeet : Sp := fun vs H Q _ => ∃ (a b c d : Addr) (ns ms os : List Int), vs = [.ref a, .ref b, .ref c, .ref d] ∧ H a = some (.lst (ns.map V.int)) ∧ H b = some (.lst (ms.map V.int)) ∧ H c = some (.lst (os.map V.int)) ∧ H d = some (.lst ((outL ns ms (mx ns ms)).map V.int)) ∧
  IsF ns ∧ IsF ms ∧ IsF os ∧ weigh os = weigh ns + weigh ms ∧ ns.length ≤ 10000 ∧ ms.length ≤ 10000 ∧ Q (.bl true) H
section
variable {X : Cx} {k : Nat} {ps : List Str} {sp : Sp} {F : L2.St → XK} {x : Str} {p pos : Pos} {e : Expr} {es : List Expr} {t : TA}
/-- f(e, ..) of a def of the text, in a try whose handler sees the names -/
theorem qe_defS (C : Callee X.prog X.w X.K X.mg X.base k x ps sp) (hr : Room k X.A) (hx : QPassAt X F) (ha : QA X (e :: es) t) (hg : Gl X x := by rfl) (hdb : (x == ("__debug__" : Str)) = false := by decide) (hs : noStars (e :: es) = true := by rfl) :
    QE X (.Call (.Name x p) (e :: es) [] pos) (tCallS sp [] F t) := by
  obtain ⟨f, fd, G, hm, hk, hb⟩ := C
  have h' : notStar e = true ∧ noStars es = true := by simpa [noStars] using hs
  have hx' : PassAt X F := by unfold QPassAt at hx; exact hx
  exact .of (pe_callS G hr hg hm hk hb .nil hx' ha.to hdb (star_of h'.1) (noStars_any h'.2))
theorem q_abs : QCall X (.builtin "abs") (fun xs H Q => ∃ i, xs = [.int i] ∧ Q (.int (if i < 0 then -i else i)) H) := .of call_abs
end
/-! a def whose last parameter has a default -/
def DefAt1 (K : PySem.W.Frag) (mg : Str → Option Value) (x : Str) (st : Stmt) (d : Value) : Prop :=
  ∃ (f T : Addr) (oc : Value) (od : Option Addr) (kV doc pm : Value) (an : Option Addr) (cdv ct : Value) (osl : Array (Option Value)) (o : Obj) (n : Nat), K.lookup f = some ⟨oc, od, .func (PySem.W.fnOf x x (defArgs st) (defBody st) (defScope st) (.ref T) kV doc pm an cdv ct), osl⟩ ∧
    PySem.W.codeIn K cdv x = true ∧ PySem.W.keepIn K (.ref f) = true ∧ mg x = some (.ref f) ∧ K.lookup T = some o ∧ o.data = .seq #[d] n
def Callee1 (P : Program) (w : World) (K : PySem.W.Frag) (mg : Str → Option Value) (base : Heap) (k : Nat) (x : Str) (ps : List Str) (dv : V) (sp : Sp) : Prop :=
  ∃ f fd d, FnOk P w K mg base (CX1 P w) k f fd ps sp ∧ mg x = some (.ref f) ∧ PySem.W.keepIn K (.ref f) = true ∧ Binds K fd ps [] ∧ RelV dv d ∧ Binds K fd ps [d]
section
variable {P : Program} {w : World} {K : PySem.W.Frag} {mg : Str → Option Value} {base : Heap}
theorem Callee1.all {k : Nat} {x : Str} {ps : List Str} {dv : V} {sp : Sp} (C : Callee1 P w K mg base k x ps dv sp) : Callee P w K mg base k x ps sp := by
  obtain ⟨f, fd, d, F, hm, hk, hb, _⟩ := C
  exact ⟨f, fd, F, hm, hk, hb⟩
theorem Callee1.mono {j k : Nat} {x : Str} {ps : List Str} {dv : V} {sp : Sp} (C : Callee1 P w K mg base j x ps dv sp) (h : j ≤ k) : Callee1 P w K mg base k x ps dv sp := by
  obtain ⟨f, fd, d, F, r⟩ := C
  exact ⟨f, fd, d, F.mono h, r⟩
theorem def_mk1 {h : Heap} {x : Str} {st : Stmt} {d : Value} {f T : Addr} {oc : Value} {od an : Option Addr} {osl : Array (Option Value)} {kV doc pm cdv ct : Value} {o : Obj} {n : Nat} (X : K.In h) (G : h.Ns mainGlobals mg) (a : PySem.W.nsIn K mainGlobals x = some (some (.ref f)))
    (l : K.lookup f = some ⟨oc, od, .func (PySem.W.fnOf x x (defArgs st) (defBody st) (defScope st) (.ref T) kV doc pm an cdv ct), osl⟩) (c : PySem.W.codeIn K cdv x = true) (k : PySem.W.keepIn K (.ref f) = true) (t : K.lookup T = some o) (e : o.data = .seq #[d] n) : DefAt1 K mg x st d :=
  ⟨f, T, oc, od, kV, doc, pm, an, cdv, ct, osl, o, n, l, c, k, PySem.W.mg_of X G a, t, e⟩
theorem callee1_of {x : Str} {st : Stmt} {N : List Str} {k : Nat} {sp : Sp} {i : Int} {tk : Tok} {p1 p2 : Str} (D : DefAt1 K mg x st (.int i tk)) (S : FnScope N [p1, p2] (defScope st)) (len : ∀ vs H Q E, sp vs H Q E → vs.length = 2)
    (hb2 : ∀ (T : Addr) (kV doc pm : Value) (an : Option Addr) (cdv ct : Value) (u v : Value), ∃ kk : Option (Array Value) → Sem (List (Str × Value)), bindArgs (PySem.W.fnOf x x (defArgs st) (defBody st) (defScope st) (.ref T) kV doc pm an cdv ct) ⟨[u, v], []⟩ = seqItems? (.ref T) >>= kk ∧ kk (some #[.int i tk]) = pure [(p1, u), (p2, v)])
    (hb1 : ∀ (T : Addr) (kV doc pm : Value) (an : Option Addr) (cdv ct : Value) (u : Value), ∃ kk : Option (Array Value) → Sem (List (Str × Value)), bindArgs (PySem.W.fnOf x x (defArgs st) (defBody st) (defScope st) (.ref T) kV doc pm an cdv ct) ⟨[u], []⟩ = seqItems? (.ref T) >>= kk ∧ kk (some #[.int i tk]) = pure [(p1, u), (p2, .int i tk)])
    (hbody : ∀ (f : Addr) (cdv : Value) (A : Around) (outer : List Env) (s : Shared) (H : Hp) (vs : List V) (Q : VK) (E : XK), Room k (A.deeper (envOfC x (defScope st) s.heap.objs.size f cdv)) → sp vs H Q E →
      ∃ t, QSs (cxOf (CX1 P w) P w K mg base N x (defScope st) f cdv A outer s H E) (defBody st) t ∧ t { nx := fun _ H' => Q .non H', rt := Q } (start N vs) H) : Callee1 P w K mg base (k + 1) x [p1, p2] (.int i) sp := by
  obtain ⟨f, T, oc, od, kV, doc, pm, an, cdv, ct, osl, o, n, l, c, kp, hm, t, e⟩ := D
  refine ⟨f, _, .int i tk, fn_of l c S len fun A outer s H vs Q E hr hsp => ?_, hm, kp, ?_, ⟨_, rfl⟩, ?_⟩
  · obtain ⟨tt, h1, h2⟩ := hbody f cdv A outer s H vs Q E hr hsp
    exact ⟨tt, h1.to, h2⟩
  · intro s us X hl
    rw [List.append_nil] at hl ⊢
    match us, hl with
    | [u, v], _ =>
      obtain ⟨kk, q1, q2⟩ := hb2 T kV doc pm an cdv ct u v
      exact PySem.W.binds_K X rfl t e q1 q2
  · intro s us X hl
    have hl1 : us.length = 1 := by simpa using hl
    match us, hl1 with
    | [u], _ =>
      obtain ⟨kk, q1, q2⟩ := hb1 T kV doc pm an cdv ct u
      exact PySem.W.binds_K X rfl t e q1 q2
end
section
variable {X : Cx} {k : Nat} {ps : List Str} {sp : Sp} {F : L2.St → XK} {E : XK} {dv : V} {x : Str} {p pos : Pos} {e : Expr} {es : List Expr} {t : TA}
/-- f(e, ..) with the default filled in -/
theorem qe_def1 (C : Callee1 X.prog X.w X.K X.mg X.base k x ps dv sp) (hr : Room k X.A) (hx : QPass X E) (ha : QA X (e :: es) t) (hg : Gl X x := by rfl) (hdb : (x == ("__debug__" : Str)) = false := by decide) (hs : noStars (e :: es) = true := by rfl) :
    QE X (.Call (.Name x p) (e :: es) [] pos) (tCall sp [dv] E t) := by
  obtain ⟨f, fd, d, G, hm, hk, _, r, hb⟩ := C
  have h' : notStar e = true ∧ noStars es = true := by simpa [noStars] using hs
  exact .of (pe_call G hr hg hm hk hb (.cons r .nil) hx.to ha.to hdb (star_of h'.1) (noStars_any h'.2))
theorem qe_def1S (C : Callee1 X.prog X.w X.K X.mg X.base k x ps dv sp) (hr : Room k X.A) (hx : QPassAt X F) (ha : QA X (e :: es) t) (hg : Gl X x := by rfl) (hdb : (x == ("__debug__" : Str)) = false := by decide) (hs : noStars (e :: es) = true := by rfl) :
    QE X (.Call (.Name x p) (e :: es) [] pos) (tCallS sp [dv] F t) := by
  obtain ⟨f, fd, d, G, hm, hk, _, r, hb⟩ := C
  have h' : notStar e = true ∧ noStars es = true := by simpa [noStars] using hs
  have hx' : PassAt X F := by unfold QPassAt at hx; exact hx
  exact .of (pe_callS G hr hg hm hk hb (.cons r .nil) hx' ha.to hdb (star_of h'.1) (noStars_any h'.2))
end
/-! halves and parts -/
def cnt (ns : List Int) : Nat := (ns.filter fun z => z != 0).length
theorem weigh_odd : ∀ {ns : List Int}, (∀ i ∈ ns, -1 ≤ i ∧ i ≤ 1) → weigh ns % 2 = (cnt ns : Int) % 2
  | [], _ => rfl
  | a :: r, h => by
    have ih := weigh_odd (ns := r) fun i hi => h i (List.mem_cons_of_mem _ hi)
    have ha := h a List.mem_cons_self
    show (a + 3 * weigh r) % 2 = _
    by_cases e : a = 0
    · subst e
      have : cnt (0 :: r) = cnt r := by unfold cnt; simp
      rw [this]
      omega
    · have : cnt (a :: r) = cnt r + 1 := by unfold cnt; rw [List.filter_cons_of_pos (by simpa using e)]; simp
      rw [this]
      omega
def BadPlace (K : PySem.W.Frag) (H : Hp) (y : V) : Prop := (∃ i : Int, y = .int i ∧ i < 0) ∨ NoInt K H y
def spHalved (K : PySem.W.Frag) (CF : Addr) : Sp := fun vs H Q E => ∃ x, vs = [x] ∧ ((∃ ns, Good H x ns ∧ ns.length ≤ 10000 ∧ ∀ (p r : Addr) (os : List Int) (o : Int) (H' : Hp), H p = none → H r = none → H' p = some (.lst (os.map V.int)) → H' r = some (.tup [.ref p, .int o]) → Same H H' → IsF os → 2 * weigh os + o = weigh ns → 0 ≤ o → o ≤ 1 → os.length ≤ ns.length + 1 → Q (.ref r) H') ∨ (Bad K H x ∧ E (.ref CF) none H))
def spParted (K : PySem.W.Frag) (CF CP : Addr) : Sp := fun vs H Q E => ∃ x y, vs = [x, y] ∧ ((∃ (ns : List Int) (k : Nat), Good H x ns ∧ y = .int k ∧ ns.length ≤ 10000 ∧ k ≤ 20000 ∧ ∀ (p q r : Addr) (hs ls : List Int) (H' : Hp), H p = none → H q = none → H r = none → p ≠ q → H' p = some (.lst (hs.map V.int)) → H' q = some (.lst (ls.map V.int)) → H' r = some (.tup [.ref p, .ref q]) → Same H H' →
    IsF hs → IsF ls → weigh hs * 3 ^ k + weigh ls = weigh ns → -(3 ^ k) < 2 * weigh ls → 2 * weigh ls < 3 ^ k → hs.length ≤ ns.length → ls.length ≤ ns.length → Q (.ref r) H') ∨ (Bad K H x ∧ E (.ref CF) none H) ∨ ∃ ns, Good H x ns ∧ BadPlace K H y ∧ E (.ref CP) none H)
def spHalfIs : Sp := fun vs H Q _ => ∃ (r p b : Addr) (o : Int) (os ns : List Int), vs = [.ref r, .ref b] ∧ H r = some (.tup [.ref p, .int o]) ∧ H p = some (.lst (os.map V.int)) ∧ IsF os ∧ H b = some (.lst (ns.map V.int)) ∧ IsF ns ∧ 2 * weigh os + o = weigh ns ∧ 0 ≤ o ∧ o ≤ 1 ∧ ∀ H', Same H H' → Q (.bl true) H'
def spPartsAre : Sp := fun vs H Q _ => ∃ (r p q b : Addr) (k : Nat) (hs ls ns : List Int), vs = [.ref r, .ref b, .int k] ∧ H r = some (.tup [.ref p, .ref q]) ∧ H p = some (.lst (hs.map V.int)) ∧ IsF hs ∧ H q = some (.lst (ls.map V.int)) ∧ IsF ls ∧ H b = some (.lst (ns.map V.int)) ∧ k ≤ 20000 ∧ hs.length ≤ 10000 ∧
  weigh hs * 3 ^ k + weigh ls = weigh ns ∧ -(3 ^ k) < 2 * weigh ls ∧ 2 * weigh ls < 3 ^ k ∧ Q (.bl true) H
def spNoPlace (K : PySem.W.Frag) : Sp := fun vs H Q _ => ∃ cell : Int, vs = [.int cell] ∧ ∀ y H', Same H H' → BadPlace K H' y → Q y H'
def spRefused8 (K : PySem.W.Frag) : Sp := fun vs H Q _ => ∃ (which : Int) (x b c d : V) (ns : List Int), vs = [.int which, x, b, c, d] ∧ Good H x ns ∧ Bad K H b ∧ BadPlace K H d ∧ ∀ H', Same H H' → Q (.bl true) H'
/-! products of great numbers -/
theorem pow3_le4 : ∀ m : Nat, (3 : Nat) ^ m ≤ 2 ^ (2 * m)
  | 0 => Nat.le_refl _
  | m + 1 => by
    have ih := pow3_le4 m
    have e : (2 : Nat) ^ (2 * (m + 1)) = 2 ^ (2 * m) * 4 := by rw [Nat.mul_add, Nat.pow_add]
    rw [Nat.pow_succ, e]
    omega
theorem bits3 {a : Int} {m : Nat} (h1 : -(3 ^ m) ≤ a) (h2 : a ≤ 3 ^ m) (hm : m ≤ 100000) : Builtin.Int.intBits a ≤ 2 ^ 20 := by
  refine Nat.le_trans (PyProof.Rows.intBits_le (k := 2 * m + 1) ?_) (Nat.le_trans (show 2 * m + 1 ≤ 300000 by omega) (by decide))
  have e : ((3 : Int) ^ m) = ((3 ^ m : Nat) : Int) := by simp
  rw [e] at h1 h2
  have := pow3_le4 m
  rw [Nat.pow_succ]
  have p : 0 < 2 ^ (2 * m) := Nat.two_pow_pos _
  omega
theorem mul3 {a b : Int} {m n : Nat} (h1 : -(3 ^ m) ≤ a) (h2 : a ≤ 3 ^ m) (g1 : -(3 ^ n) ≤ b) (g2 : b ≤ 3 ^ n) (hm : m ≤ 100000) (hn : n ≤ 100000) : IntMulOk a b := .of_bits (bits3 h1 h2 hm) (bits3 g1 g2 hn)
theorem weigh_le {ns : List Int} (h : ∀ i ∈ ns, -1 ≤ i ∧ i ≤ 1) : -(3 ^ ns.length) ≤ weigh ns ∧ weigh ns ≤ 3 ^ ns.length := by
  have := weigh_bound h
  have := pow3_pos ns.length
  omega
theorem q_mulG {X : Cx} : QOp X (binaryOp .Mult) (rI IntMulOk fun i j => .int (i * j)) := .of (opI fun _ _ _ _ _ _ _ hc q => mul_int q hc)
theorem q_fdivG {X : Cx} : QOp X (binaryOp .FloorDiv) (rI (fun _ j => 0 < j ∧ j < 2 ^ 4000) fun i j => .int (i / j)) := .of (opI fun i j _ _ _ _ _ hc q => by
  have h1 : (0 : Int) < j := hc.1
  have h2 : j < 2 ^ 4000 := hc.2
  refine floordiv_int (by omega) (by rw [Int.fdiv_eq_ediv_of_nonneg i (by omega)]; exact q) (.inl (PyProof.noPylong_of_log2 ?_))
  refine Nat.lt_of_lt_of_le ((Nat.log2_lt (by omega)).mpr (?_ : j.natAbs < 2 ^ 4000)) (by decide)
  have e : ((2 : Int) ^ 4000) = ((2 ^ 4000 : Nat) : Int) := (Int.natCast_pow 2 4000).symm
  rw [e] at h2
  generalize (2 : Nat) ^ 4000 = t at h2 ⊢
  omega)
/-! the whole reckoning -/
theorem len_weigh {ns : List Int} (h : IsF ns) {m : Nat} (h1 : -(3 ^ m) < 2 * weigh ns) (h2 : 2 * weigh ns < 3 ^ m) : ns.length ≤ m := by
  rcases List.eq_nil_or_concat ns with rfl | ⟨q, z, rfl⟩
  · exact Nat.zero_le _
  · rw [List.concat_eq_append] at *
    have hz : z = 1 ∨ z = -1 := by
      have r := h.lays z (by simp)
      have n0 : z ≠ 0 := by have := h.last; simpa using this
      omega
    have b := weigh_bound (ns := q) fun i hi => h.lays i (List.mem_append_left _ hi)
    rw [weigh_snoc] at h1 h2
    rw [List.length_append]
    show q.length + 1 ≤ m
    have lt : (3 : Int) ^ q.length < 3 ^ m := by
      rcases hz with rfl | rfl <;> omega
    have lt' : (3 : Nat) ^ q.length < 3 ^ m := by
      have e1 : ((3 : Int) ^ q.length) = ((3 ^ q.length : Nat) : Int) := by simp
      have e2 : ((3 : Int) ^ m) = ((3 ^ m : Nat) : Int) := by simp
      omega
    exact (Nat.pow_lt_pow_iff_right (by decide)).mp lt'
/-- the nearest multiple of a place's weight, and the rest -/
def nearQ (n : Int) (k : Nat) : Int := (n + 3 ^ k / 2) / 3 ^ k
def nearR (n : Int) (k : Nat) : Int := n - nearQ n k * 3 ^ k
theorem near_un {n a b : Int} {k : Nat} (h : a * 3 ^ k + b = n) (h1 : -(3 ^ k) < 2 * b) (h2 : 2 * b < 3 ^ k) : nearQ n k = a ∧ nearR n k = b := by
  have p := pow3_pos k
  have o := pow3_odd k
  have e : nearQ n k = a := by
    unfold nearQ
    generalize (3 : Int) ^ k = t at *
    subst h
    have e1 : a * t + b + t / 2 = (b + t / 2) + a * t := by omega
    rw [e1, Int.add_mul_ediv_right _ _ (by omega)]
    have e2 : (b + t / 2) / t = 0 := Int.ediv_eq_zero_of_lt (by omega) (by omega)
    omega
  refine ⟨e, ?_⟩
  unfold nearR
  rw [e]
  omega
theorem nearR_range (n : Int) (k : Nat) : -(3 ^ k) < 2 * nearR n k ∧ 2 * nearR n k < 3 ^ k := by
  have p := pow3_pos k
  have o := pow3_odd k
  have d1 : nearQ n k * 3 ^ k ≤ n + 3 ^ k / 2 := Int.ediv_mul_le _ (by omega)
  have d2 : n + 3 ^ k / 2 < (nearQ n k + 1) * 3 ^ k := Int.lt_ediv_add_one_mul_self _ p
  rw [Int.add_mul] at d2
  unfold nearR
  generalize (3 : Int) ^ k = t at *
  generalize nearQ n k * t = u at *
  omega
def dueN (word a b load : Int) : Int := if word = 0 then load else if word = 1 then a + b else if word = 2 then a - b else if word = 3 then a * nearR b 5 else if word = 4 then a / 2 else if word = 5 then nearQ a (load % 40).toNat else if word = 6 then a else -a
def spNear : Sp := fun vs H Q _ => ∃ (n : Int) (k : Nat), vs = [.int n, .int k] ∧ k ≤ 100 ∧ -(3 ^ 1000) ≤ n ∧ n ≤ 3 ^ 1000 ∧ ∀ r, H r = none → Q (.ref r) (upd H r (.tup [.int (nearQ n k), .int (nearR n k)]))
def spDueN : Sp := fun vs H Q _ => ∃ (word a b load : Int), vs = [.int word, .int a, .int b, .int load] ∧ (-(3 ^ 40) ≤ a ∧ a ≤ 3 ^ 40) ∧ (-(3 ^ 40) ≤ b ∧ b ≤ 3 ^ 40) ∧ ∀ H', Same H H' → Q (.int (dueN word a b load)) H'
/-- four forms and the four numbers that they weigh -/
def Four (H : Hp) (fa nb : Addr) (ad : List Addr) (fs : List (List Int)) : Prop := ad.length = 4 ∧ fs.length = 4 ∧ H fa = some (.lst (ad.map V.ref)) ∧ H nb = some (.lst ((fs.map weigh).map V.int)) ∧ ∀ i (h1 : i < ad.length) (h2 : i < fs.length), H ad[i] = some (.lst (fs[i].map V.int)) ∧ IsF fs[i] ∧ fs[i].length ≤ 60
def spEnds : Sp := fun vs H Q _ => ∃ (fa nb : Addr) (ad : List Addr) (fs : List (List Int)), vs = [.ref fa, .ref nb] ∧ Four H fa nb ad fs ∧ ∀ H', Same H H' → Q (.bl true) H'
theorem Four.same {H H' : Hp} {fa nb : Addr} {ad : List Addr} {fs : List (List Int)} (h : Four H fa nb ad fs) (s : Same H H') : Four H' fa nb ad fs := by
  obtain ⟨h1, h2, h3, h4, h5⟩ := h
  exact ⟨h1, h2, s _ _ h3, s _ _ h4, fun i a b => ⟨s _ _ (h5 i a b).1, (h5 i a b).2⟩⟩
theorem Four.at {H : Hp} {fa nb : Addr} {ad : List Addr} {fs : List (List Int)} (h : Four H fa nb ad fs) {i : Nat} (hi : i < 4) : ∃ (x : Addr) (l : List Int), ad[i]? = some x ∧ fs[i]? = some l ∧ atI (ad.map V.ref) (i : Int) = some (.ref x) ∧ atI ((fs.map weigh).map V.int) (i : Int) = some (.int (weigh l)) ∧ H x = some (.lst (l.map V.int)) ∧ IsF l ∧ l.length ≤ 60 := by
  obtain ⟨h1, h2, h3, h4, h5⟩ := h
  have a1 : i < ad.length := by omega
  have a2 : i < fs.length := by omega
  obtain ⟨e1, e2, e3⟩ := h5 i a1 a2
  refine ⟨ad[i], fs[i], List.getElem?_eq_getElem a1, List.getElem?_eq_getElem a2, atI_nat ?_, atI_nat ?_, e1, e2, e3⟩
  · rw [List.getElem?_map, List.getElem?_eq_getElem a1]; rfl
  · rw [List.getElem?_map, List.getElem?_map, List.getElem?_eq_getElem a2]; rfl
/-! texts -/
def sign (z : Int) : Nat := if z = -1 then 60 else if z = 1 then 62 else 46
def layOf (c : Nat) : Option Int := if c = 60 then some (-1) else if c = 62 then some 1 else if c = 46 then some 0 else none
def laysOf : List Nat → Option (List Int)
  | [] => some []
  | c :: r => match layOf c, laysOf r with
    | some z, some t => some (z :: t)
    | _, _ => none
def txtOf (ns : List Int) : Str := if ns = [] then ⟨#[46]⟩ else ⟨(ns.reverse.map sign).toArray⟩
/-- the form that a text writes -/
def readS (s : Str) : Option (List Int) := if s.cps.toList = [46] then some [] else if s.cps.toList = [] then none else if s.cps.toList.head? = some 46 then none else (laysOf s.cps.toList).map List.reverse
theorem lay_sign {z : Int} (h : -1 ≤ z ∧ z ≤ 1) : layOf (sign z) = some z := by
  have : z = -1 ∨ z = 0 ∨ z = 1 := by omega
  rcases this with rfl | rfl | rfl <;> decide
theorem lays_sign : ∀ {r : List Int}, (∀ i ∈ r, -1 ≤ i ∧ i ≤ 1) → laysOf (r.map sign) = some r
  | [], _ => rfl
  | z :: t, h => by
    have ih := lays_sign (r := t) fun i hi => h i (List.mem_cons_of_mem _ hi)
    show (match layOf (sign z), laysOf (t.map sign) with | some z, some t => some (z :: t) | _, _ => none) = _
    rw [lay_sign (h z List.mem_cons_self), ih]
theorem read_txt {ns : List Int} (h : IsF ns) : readS (txtOf ns) = some ns := by
  by_cases e : ns = []
  · subst e; rfl
  · unfold txtOf
    rw [if_neg e]
    unfold readS
    have hd : (ns.reverse.map sign).head? ≠ some 46 := by
      rw [List.head?_map, List.head?_reverse]
      intro z
      cases q : ns.getLast? with
      | none => rw [q] at z; cases z
      | some v =>
        rw [q] at z
        have nv : v ≠ 0 := fun e => h.last (by rw [q, e])
        have rv := h.lays v (List.mem_of_getLast? q)
        have : v = 1 ∨ v = -1 := by omega
        rcases this with rfl | rfl <;> revert z <;> decide
    have n1 : ns.reverse.map sign ≠ [46] := fun z => hd (by rw [z]; rfl)
    have n2 : ns.reverse.map sign ≠ [] := by simpa using e
    show (if ns.reverse.map sign = [46] then _ else if ns.reverse.map sign = [] then _ else if (ns.reverse.map sign).head? = some 46 then _ else (laysOf (ns.reverse.map sign)).map List.reverse) = _
    rw [if_neg n1, if_neg n2, if_neg hd, lays_sign fun i hi => h.lays i (List.mem_reverse.mp hi)]
    simp
theorem txt_len (ns : List Int) : (txtOf ns).length ≤ ns.length + 1 := by
  unfold txtOf
  by_cases e : ns = []
  · rw [if_pos e]; show 1 ≤ _; omega
  · rw [if_neg e]
    show ((ns.reverse.map sign).toArray).size ≤ _
    simp
def spShown (K : PySem.W.Frag) (CF : Addr) : Sp := fun vs H Q E => ∃ x, vs = [x] ∧ ((∃ ns, Good H x ns ∧ ns.length ≤ 10000 ∧ ∀ H', Same H H' → Q (.str (txtOf ns)) H') ∨ (Bad K H x ∧ E (.ref CF) none H))
def spRead (K : PySem.W.Frag) (CT : Addr) : Sp := fun vs H Q E => ∃ x, vs = [x] ∧ ((∃ (s : Str) (ns : List Int), x = .str s ∧ readS s = some ns ∧ s.length ≤ 10001 ∧ ∀ (p : Addr) (H' : Hp), H p = none → H' p = some (.lst (ns.map V.int)) → Same H H' → Q (.ref p) H') ∨
  (((∃ s : Str, x = .str s ∧ readS s = none ∧ s.length ≤ 10001) ∨ ∃ t, TyOf K H x (.type t) ∧ kitD t "str" = some false) ∧ ∀ H', Same H H' → E (.ref CT) none H'))
def spMultiplied (K : PySem.W.Frag) (CF : Addr) : Sp := fun vs H Q E => ∃ x y, vs = [x, y] ∧ ((∃ ns ms, Good H x ns ∧ Good H y ms ∧ ns.length ≤ 1000 ∧ ms.length ≤ 1000 ∧ ∀ (p : Addr) (os : List Int) (H' : Hp), H p = none → H' p = some (.lst (os.map V.int)) → Same H H' → IsF os → weigh os = weigh ns * weigh ms → Q (.ref p) H') ∨ (Bad K H x ∧ E (.ref CF) none H) ∨ ∃ ns, Good H x ns ∧ ns.length ≤ 100000 ∧ Bad K H y ∧ E (.ref CF) none H)
def spTold : Sp := fun vs H Q _ => ∃ (word load : Int) (x y : V) (ns ms : List Int), vs = [.int word, x, y, .int load] ∧ Good H x ns ∧ Good H y ms ∧ ns.length ≤ 100 ∧ ms.length ≤ 100 ∧ -(3 ^ 40) < 2 * load ∧ 2 * load < 3 ^ 40 ∧ ∀ (p : Addr) (os : List Int) (H' : Hp), H p = none → H' p = some (.lst (os.map V.int)) → Same H H' → IsF os → weigh os = dueN word (weigh ns) (weigh ms) load → Q (.ref p) H'
/-- the reckoning's state -/
structure Inv4 (H H2 : Hp) (fa nb : Addr) (ad : List Addr) (fs : List (List Int)) : Prop where
  four : Four H2 fa nb ad fs
  f0 : H fa = none
  n0 : H nb = none
  fn : fa ≠ nb
  ads : ∀ x ∈ ad, x ≠ fa ∧ x ≠ nb
  small : ∀ l ∈ fs, -10000000000000 ≤ weigh l ∧ weigh l ≤ 10000000000000
  same : Same H H2
theorem Inv4.more {H H2 H3 : Hp} {fa nb : Addr} {ad : List Addr} {fs : List (List Int)} (h : Inv4 H H2 fa nb ad fs) (s : Same H2 H3) : Inv4 H H3 fa nb ad fs := ⟨h.four.same s, h.f0, h.n0, h.fn, h.ads, h.small, h.same.trans s⟩
theorem due_bound {word a b load : Int} (ha : -10000000000000 ≤ a ∧ a ≤ 10000000000000) (hb : -10000000000000 ≤ b ∧ b ≤ 10000000000000) (l1 : -(3 ^ 40) < 2 * load) (l2 : 2 * load < 3 ^ 40) : -(3 ^ 40) < 2 * dueN word a b load ∧ 2 * dueN word a b load < 3 ^ 40 := by
  have e40 : (3 : Int) ^ 40 = 12157665459056928801 := by decide +kernel
  rw [e40] at *
  unfold dueN
  split
  · omega
  split
  · omega
  split
  · omega
  split
  · have r := nearR_range b 5
    have e5 : (3 : Int) ^ 5 = 243 := by decide
    rw [e5] at r
    have m1 : (a * nearR b 5).natAbs ≤ 10000000000000 * 121 := by
      rw [Int.natAbs_mul]
      exact Nat.mul_le_mul (by omega) (by omega)
    omega
  split
  · omega
  split
  · have hk : (load % 40).toNat ≤ 39 := by omega
    generalize (load % 40).toNat = k at hk
    have p := pow3_pos k
    have d1 : nearQ a k * 3 ^ k ≤ a + 3 ^ k / 2 := Int.ediv_mul_le _ (by omega)
    have d2 : a + 3 ^ k / 2 < (nearQ a k + 1) * 3 ^ k := Int.lt_ediv_add_one_mul_self _ p
    have tl : (3 : Int) ^ k ≤ 4052555153018976267 := by
      have e1 : ((3 : Int) ^ k) = ((3 ^ k : Nat) : Int) := by simp
      have e2 : (3 : Nat) ^ 39 = 4052555153018976267 := by decide +kernel
      have := Nat.pow_le_pow_right (n := 3) (by decide) hk
      omega
    generalize (3 : Int) ^ k = t at *
    generalize nearQ a k = q at *
    by_cases h0 : 0 ≤ q
    · have : q * 1 ≤ q * t := Int.mul_le_mul_of_nonneg_left (by omega) h0
      omega
    · have : (q + 1) * t ≤ (q + 1) * 1 := Int.mul_le_mul_of_nonpos_left (by omega) (by omega)
      omega
  split
  · omega
  · omega
theorem Four.put {H2 : Hp} {fa nb : Addr} {ad : List Addr} {fs : List (List Int)} (h : Four H2 fa nb ad fs) (hfn : fa ≠ nb) (had : ∀ x ∈ ad, x ≠ fa ∧ x ≠ nb) {i : Nat} (hi : i < 4) {m : Addr} {os : List Int} (hm : H2 m = some (.lst (os.map V.int))) (hf : IsF os) (hl : os.length ≤ 60) (mf : m ≠ fa) (mn : m ≠ nb) :
    Four (upd (upd H2 fa (.lst ((ad.map V.ref).set i (.ref m)))) nb (.lst (((fs.map weigh).map V.int).set i (.int (weigh os))))) fa nb (ad.set i m) (fs.set i os) := by
  obtain ⟨h1, h2, h3, h4, h5⟩ := h
  refine ⟨by rw [List.length_set]; exact h1, by rw [List.length_set]; exact h2, ?_, ?_, fun j a1 a2 => ?_⟩
  · rw [upd_ne hfn, upd_same, List.map_set]
  · rw [upd_same, List.map_set, List.map_set]
  · have b1 : j < ad.length := by rw [List.length_set] at a1; exact a1
    have b2 : j < fs.length := by rw [List.length_set] at a2; exact a2
    by_cases e : i = j
    · subst e
      rw [List.getElem_set_self, List.getElem_set_self]
      exact ⟨by rw [upd_ne mn, upd_ne mf]; exact hm, hf, hl⟩
    · rw [List.getElem_set_ne e, List.getElem_set_ne e]
      have ne := had ad[j] (List.getElem_mem b1)
      exact ⟨by rw [upd_ne ne.2, upd_ne ne.1]; exact (h5 j b1 b2).1, (h5 j b1 b2).2⟩
end Pk
/-! stage 2, the landed program's own defs -/
namespace Pk
open PySem PySem.Spec PyProof.Rows L2
def spCarryOf : Sp := fun vs H Q _ => ∃ n : Int, vs = [.int n] ∧ Q (.int ((n + 1) / 3)) H
theorem lay_take {ns : List Int} {m j : Nat} : layAt (ns.take m) j = if j < m then layAt ns j else 0 := by
  by_cases h : j < m
  · rw [if_pos h]
    by_cases g : j < ns.length
    · rw [layAt_get (List.getElem?_eq_getElem g)]
      exact layAt_get (by rw [List.getElem?_take_of_lt h, List.getElem?_eq_getElem g])
    · rw [layAt_le (ns := ns) (by omega), layAt_le (by rw [List.length_take]; omega)]
  · rw [if_neg h, layAt_le (by rw [List.length_take]; omega)]
theorem lay_drop {ns : List Int} {m j : Nat} : layAt (ns.drop m) j = layAt ns (m + j) := by
  by_cases g : m + j < ns.length
  · rw [layAt_get (List.getElem?_eq_getElem g)]
    exact layAt_get (by rw [List.getElem?_drop, List.getElem?_eq_getElem g])
  · rw [layAt_le (ns := ns) (by omega), layAt_le (by rw [List.length_drop]; omega)]
/-- ns without the noughts at its end -/
def Trim (ns ms : List Int) : Prop := (∃ k, ms = ns.take k) ∧ ms.getLast? ≠ some 0 ∧ ∀ j, layAt ms j = layAt ns j
theorem Trim.isF {ns ms : List Int} (h : Trim ns ms) (g : ∀ i ∈ ns, -1 ≤ i ∧ i ≤ 1) : IsF ms := by
  obtain ⟨⟨k, rfl⟩, h2, _⟩ := h
  exact ⟨fun i hi => g i (List.mem_of_mem_take hi), h2⟩
theorem Trim.len {ns ms : List Int} (h : Trim ns ms) : ms.length ≤ ns.length := by
  obtain ⟨⟨k, rfl⟩, _⟩ := h
  rw [List.length_take]; omega
theorem Trim.weigh {ns ms : List Int} (h : Trim ns ms) : weigh ms = weigh ns := weigh_congr _ _ _ (Nat.le_refl _) h.2.2
def spTrim : Sp := fun vs H Q _ => ∃ (a : Addr) (ns : List Int), vs = [.ref a] ∧ H a = some (.lst (ns.map V.int)) ∧ ns.length ≤ 90000 ∧ ∀ (p : Addr) (ms : List Int), H p = none → Trim ns ms → Q (.ref p) (upd H p (.lst (ms.map V.int)))
def spReqP (K : PySem.W.Frag) (CP : Addr) : Sp := fun vs H Q E => ∃ y, vs = [y] ∧ ((∃ k : Nat, y = .int k ∧ Q .non H) ∨ (BadPlace K H y ∧ E (.ref CP) none H))
theorem cut_takeG (ns : List Int) (k : Nat) : cutV (ns.map V.int) none (some (k : Int)) = (ns.take k).map V.int := by
  by_cases h : k ≤ ns.length
  · exact cut_take h
  · unfold cutV
    rw [List.length_map, HT.sIx_none, HT.sIx_nat, List.drop_zero, Nat.sub_zero, ← List.map_take, Nat.min_eq_right (by omega), List.take_length, List.take_of_length_le (by omega)]
theorem cut_dropG (ns : List Int) (k : Nat) : cutV (ns.map V.int) (some (k : Int)) none = (ns.drop k).map V.int := by
  unfold cutV
  rw [List.length_map, HT.sIx_none, HT.sIx_nat, ← List.map_drop]
  by_cases h : k ≤ ns.length
  · rw [Nat.min_eq_left h, List.take_of_length_le (by rw [List.length_map, List.length_drop]; omega)]
  · rw [Nat.min_eq_right (by omega), List.drop_length, List.drop_of_length_le (l := ns) (i := k) (by omega)]
    simp
theorem weigh_split : ∀ (k : Nat) (ns : List Int), weigh (ns.drop k) * 3 ^ k + weigh (ns.take k) = weigh ns
  | 0, ns => by simp [weigh]
  | k + 1, [] => by simp [weigh]
  | k + 1, a :: r => by
    have ih := weigh_split k r
    show weigh (r.drop k) * 3 ^ (k + 1) + (a + 3 * weigh (r.take k)) = a + 3 * weigh r
    rw [← ih, Int.pow_succ, Int.mul_add, ← Int.mul_assoc]
    generalize weigh (r.drop k) * 3 ^ k = t
    omega
theorem take_bound {ns : List Int} {n : Nat} (h : ∀ i ∈ ns.take n, -1 ≤ i ∧ i ≤ 1) : -(3 ^ n) < 2 * weigh (ns.take n) ∧ 2 * weigh (ns.take n) < 3 ^ n := by
  have b := weigh_bound h
  have l : (ns.take n).length ≤ n := by rw [List.length_take]; omega
  have m : (3 : Int) ^ (ns.take n).length ≤ 3 ^ n := by
    have e1 : ((3 : Int) ^ (ns.take n).length) = ((3 ^ (ns.take n).length : Nat) : Int) := by simp
    have e2 : ((3 : Int) ^ n) = ((3 ^ n : Nat) : Int) := by simp
    have := Nat.pow_le_pow_right (n := 3) (by decide) l
    omega
  omega
theorem mul_bound {a b : Int} {m n : Nat} (h : -(3 ^ m) ≤ a ∧ a ≤ 3 ^ m) (g : -(3 ^ n) ≤ b ∧ b ≤ 3 ^ n) : -(3 ^ (m + n + 1)) < 2 * (a * b) ∧ 2 * (a * b) < 3 ^ (m + n + 1) := by
  have e1 : ((3 : Int) ^ m) = ((3 ^ m : Nat) : Int) := by simp
  have e2 : ((3 : Int) ^ n) = ((3 ^ n : Nat) : Int) := by simp
  have ha : a.natAbs ≤ 3 ^ m := by rw [e1] at h; omega
  have hb : b.natAbs ≤ 3 ^ n := by rw [e2] at g; omega
  have hm : (a * b).natAbs ≤ 3 ^ m * 3 ^ n := by rw [Int.natAbs_mul]; exact Nat.mul_le_mul ha hb
  have e3 : ((3 : Int) ^ (m + n + 1)) = ((3 ^ m * 3 ^ n * 3 : Nat) : Int) := by rw [Int.pow_succ, Int.pow_add, e1, e2]; simp
  have p : 0 < 3 ^ m * 3 ^ n := Nat.mul_pos (Nat.pow_pos (by decide)) (Nat.pow_pos (by decide))
  rw [e3]
  generalize a * b = t at *
  generalize 3 ^ m * 3 ^ n = u at *
  omega
theorem isF_drop {ns : List Int} (h : IsF ns) (k : Nat) : IsF (ns.drop k) := by
  refine ⟨fun i hi => h.lays i (List.mem_of_mem_drop hi), fun e => ?_⟩
  by_cases g : k < ns.length
  · rw [List.getLast?_drop, if_neg (by omega)] at e
    exact h.last e
  · rw [List.drop_of_length_le (by omega)] at e
    cases e
/-! carries of numbers that stand side by side -/
def carryF (f : Nat → Int) : Nat → Int
  | 0 => 0
  | j + 1 => (f j + carryF f j + 1) / 3
theorem carryF_eq (ns ms : List Int) : ∀ j, carryF (fun j => layAt ns j + layAt ms j) j = carry ns ms j
  | 0 => rfl
  | j + 1 => by
    show (layAt ns j + layAt ms j + carryF _ j + 1) / 3 = (layAt ns j + layAt ms j + carry ns ms j + 1) / 3
    rw [carryF_eq ns ms j]
/-- f 0, .., f (n - 1) -/
def seqI (n : Nat) (f : Nat → Int) : List Int := (List.range n).map f
theorem seqI_len {n : Nat} {f : Nat → Int} : (seqI n f).length = n := by unfold seqI; simp
theorem seqI_get {n j : Nat} {f : Nat → Int} (h : j < n) : (seqI n f)[j]? = some (f j) := by unfold seqI; rw [List.getElem?_map, List.getElem?_range h]; rfl
theorem seqI_succ {n : Nat} {f : Nat → Int} : seqI (n + 1) f = seqI n f ++ [f n] := by unfold seqI; rw [List.range_succ, List.map_append]; rfl
theorem seqI_ext {l : List Int} {n : Nat} {f : Nat → Int} (h1 : l.length = n) (h2 : ∀ j, j < n → l[j]? = some (f j)) : l = seqI n f := by
  refine List.ext_getElem? fun j => ?_
  by_cases hj : j < n
  · rw [h2 j hj, seqI_get hj]
  · rw [List.getElem?_eq_none (by omega), List.getElem?_eq_none (by rw [seqI_len]; omega)]
theorem seqV_get {n j : Nat} {f : Nat → Int} (h : j < n) : ((seqI n f).map V.int)[j]? = some (.int (f j)) := by rw [List.getElem?_map, seqI_get h]; rfl
theorem seqV_len {n : Nat} {f : Nat → Int} : ((seqI n f).map V.int).length = n := by rw [List.length_map, seqI_len]
theorem seqV_snoc {n : Nat} {f : Nat → Int} : (seqI n f).map V.int ++ [.int (f n)] = (seqI (n + 1) f).map V.int := by rw [seqI_succ, List.map_append]; rfl
theorem seqV_cons {n : Nat} {f : Nat → Int} : V.int (f 0) :: (seqI n fun j => f (j + 1)).map V.int = (seqI (n + 1) f).map V.int := by
  unfold seqI
  rw [List.range_succ_eq_map, List.map_cons, List.map_cons, List.map_map, List.map_map, List.map_map]
  rfl
theorem seqV_put {n : Nat} {f : Nat → Int} {z : Int} : (seqI n f).map V.int ++ [.int z] = (seqI (n + 1) fun j => if j < n then f j else z).map V.int := by
  rw [seqI_succ, List.map_append]
  have e : seqI n (fun j => if j < n then f j else z) = seqI n f := (seqI_ext seqI_len fun j hj => by rw [seqI_get hj, if_pos hj]).symm
  rw [e, if_neg (Nat.lt_irrefl _)]
  rfl
theorem seqV_at {n : Nat} {f : Nat → Int} {j : Nat} {y : V} (h : ((seqI n f).map V.int)[j]? = some y) : j < n ∧ y = .int (f j) := by
  have hj : j < n := by
    have := (List.getElem?_eq_some_iff.mp h).1
    rw [seqV_len] at this; exact this
  rw [seqV_get hj] at h
  exact ⟨hj, by injection h with h; exact h.symm⟩
theorem sum_seq {ns ms : List Int} {n : Nat} (h1 : ns.length ≤ n) (h2 : ms.length ≤ n) :
    (seqI (n + 1) fun j => layAt ns j + layAt ms j + carryF (fun j => layAt ns j + layAt ms j) j - 3 * (if j < n then carryF (fun j => layAt ns j + layAt ms j) (j + 1) else 0)) = sumL ns ms n := by
  unfold sumL
  rw [seqI_succ, if_neg (Nat.lt_irrefl _), layAt_le h1, layAt_le h2, carryF_eq]
  congr 1
  · unfold seqI
    refine List.map_congr_left fun j hj => ?_
    rw [if_pos (List.mem_range.mp hj), carryF_eq, carryF_eq]
    rfl
  · simp
def spTogether : Sp := fun vs H Q _ => ∃ (a b : Addr) (ns ms : List Int), vs = [.ref a, .ref b] ∧ H a = some (.lst (ns.map V.int)) ∧ H b = some (.lst (ms.map V.int)) ∧ ns.length ≤ 30000 ∧ ms.length ≤ 30000 ∧ ∀ (p : Addr) (H' : Hp), H p = none → H' p = some (.lst ((seqI (mx ns ms) fun j => layAt ns j + layAt ms j).map V.int)) → Same H H' → Q (.ref p) H'
def spCarried : Sp := fun vs H Q _ => ∃ (a : Addr) (n : Nat) (f : Nat → Int), vs = [.ref a] ∧ H a = some (.lst ((seqI n f).map V.int)) ∧ n ≤ 30000 ∧ ∀ (p : Addr) (H' : Hp), H p = none → H' p = some (.lst ((seqI n fun j => carryF f (j + 1)).map V.int)) → Same H H' → Q (.ref p) H'
def spSum : Sp := fun vs H Q _ => ∃ (a b : Addr) (ns ms : List Int), vs = [.ref a, .ref b] ∧ H a = some (.lst (ns.map V.int)) ∧ H b = some (.lst (ms.map V.int)) ∧ (∀ i ∈ ns, -1 ≤ i ∧ i ≤ 1) ∧ (∀ i ∈ ms, -1 ≤ i ∧ i ≤ 1) ∧ ns.length ≤ 30000 ∧ ms.length ≤ 30000 ∧
  ∀ (p : Addr) (os : List Int) (H' : Hp), H p = none → H' p = some (.lst (os.map V.int)) → Same H H' → IsF os → weigh os = weigh ns + weigh ms → os.length ≤ mx ns ms + 1 → Q (.ref p) H'
end Pk
namespace L2
open PySem PySem.Spec PyProof.Rows
/-- a comprehension by a number of turns; QD: what is wanted of the heap at its end -/
theorem comp_on {J : It} {g : TG} {tt : TT} {te : TE} {QD : Hp → Prop} {σ : St} {H : Hp} {D : Addr} {n : Nat} (Pv : Nat → List V → St → Hp → Prop) (h0 : Pv 0 [] σ (upd H D (.lst []))) (hd : ∀ vs σ H, Pv n vs σ H → J.stop n H ∧ QD H)
    (hs : ∀ i vs σ H, i < n → Pv i vs σ H → J.go i H ∧ ∀ x H2 (R : List V → St → Hp → Prop), J.yld i H x H2 → (∀ vs σ H, Pv (i + 1) vs σ H → R vs σ H) → Step g tt te D vs σ H2 x R) :
    ∃ W : Nat → Nat → List V → St → Hp → Prop, (∃ m, W 0 m [] σ (upd H D (.lst []))) ∧ ∀ i m vs σ' H', W i m vs σ' H' → (J.stop i H' ∧ QD H') ∨ (J.go i H' ∧ ∀ x H2, J.yld i H' x H2 → g x σ' H2 fun σ2 H3 => tt σ2 H3 fun b H4 =>
      if b = true then te σ2 H4 fun v H5 => H5 D = some (.lst vs) ∧ vs.length < sizeLine ∧ ∃ m', m' < m ∧ W (i + 1) m' (vs ++ [v]) σ2 (upd H5 D (.lst (vs ++ [v]))) else ∃ m', m' < m ∧ W (i + 1) m' vs σ2 H4) := by
  obtain ⟨W, h1, h2⟩ := comp_by (Q := fun _ H => QD H) (J := J) (g := g) (tt := tt) (te := te) (D := D) (n := n) Pv h0 hd hs
  exact ⟨W, h1, h2⟩
/-- no test -/
theorem tt_nil {te : TE} {σ : St} {H : Hp} {D : Addr} {vs : List V} {R : List V → St → Hp → Prop} (h : te σ H fun v H5 => H5 D = some (.lst vs) ∧ vs.length < sizeLine ∧ R (vs ++ [v]) σ (upd H5 D (.lst (vs ++ [v])))) :
    ttNil σ H fun b H4 => if b = true then te σ H4 fun v H5 => H5 D = some (.lst vs) ∧ vs.length < sizeLine ∧ R (vs ++ [v]) σ (upd H5 D (.lst (vs ++ [v]))) else R vs σ H4 := iteT (B := R vs σ H) h
theorem qe_bm1C {X : Cx} {N : List Str} {scope : Scope} {C : Addr} {fp : List Addr} {s : Shared} {H : Hp} {o e : Expr} {to te : TE} {name : Str} {apos cpos : Pos} {T id : String} {r : V → List V → Hp → VK → Prop} (pa : PlainAttrs T) (slot : Slot T name id) (hty : typeOf (.builtin id) = pure (.type "method_descriptor"))
    (hm : QMt (cxComp X N scope C fp s H) id r) (ho : QE (cxComp X N scope C fp s H) o to) (ha : QE (cxComp X N scope C fp s H) e te) (hbase : attributeBase o name (cxComp X N scope C fp s H).env (eval o (cxComp X N scope C fp s H).env) = eval o (cxComp X N scope C fp s H).env := by rfl) (hline : (apos.endLine == cpos.line) = true := by rfl) (hn : notStar e = true := by rfl)
    (hfew : ((backTo cpos (starEach [e] (cxComp X N scope C fp s H).env)).all (fun x => !x.1) && (backToKw cpos (keywordEach [] (cxComp X N scope C fp s H).env)).all (fun x => x.1.isSome) && decide ([e].length + ([] : List Keyword).length + (if ([] : List Keyword).isEmpty then 0 else 1) < 30)) = true := by rfl) :
    QE (cxComp X N scope C fp s H) (.Call (.Attribute o name apos) [e] [] cpos) (tBM X.K T r to (tCons te tNil)) := qe_bm1 (X := cxComp X N scope C fp s H) pa slot hty hm ho ha hbase hline hn hfew
theorem q_listC {X : Cx} {N : List Str} {scope : Scope} {C : Addr} {fp : List Addr} {s : Shared} {H : Hp} : QCall (cxComp X N scope C fp s H) (.type "list") (fun xs H Q => ∃ p ys, xs = [.ref p] ∧ (SqL X.K H p ys ∨ SqT X.K H p ys) ∧ ∀ l, H l = none → Q (.ref l) (upd H l (.lst ys))) := q_list (X := cxComp X N scope C fp s H)
end L2
/-! products row by row -/
namespace Pk
open PySem PySem.Spec PyProof.Rows L2
theorem weigh_append : ∀ xs ys : List Int, weigh (xs ++ ys) = weigh xs + weigh ys * 3 ^ xs.length
  | [], ys => by simp [weigh]
  | a :: r, ys => by
    have ih := weigh_append r ys
    show a + 3 * weigh (r ++ ys) = a + 3 * weigh r + weigh ys * 3 ^ (r.length + 1)
    rw [ih, Int.pow_succ, ← Int.mul_assoc (weigh ys)]
    generalize weigh ys * 3 ^ r.length = t
    omega
theorem weigh_zeros (xs : List Int) (k : Nat) : weigh (xs ++ List.replicate k 0) = weigh xs := by
  refine weigh_congr _ _ _ (Nat.le_refl _) fun j => ?_
  by_cases h : j < xs.length
  · rw [layAt_get (List.getElem?_eq_getElem h)]
    exact layAt_get (by rw [List.getElem?_append_left h, List.getElem?_eq_getElem h])
  · rw [layAt_le (ns := xs) (by omega)]
    by_cases g : j < xs.length + k
    · exact layAt_get (by rw [List.getElem?_append_right (by omega), List.getElem?_replicate, if_pos (by omega)])
    · exact layAt_le (by rw [List.length_append, List.length_replicate]; omega)
def spAddedFrom : Sp := fun vs H Q _ => ∃ (a b : Addr) (ns ms : List Int) (j : Nat), vs = [.ref a, .int j, .ref b] ∧ H a = some (.lst (ns.map V.int)) ∧ H b = some (.lst (ms.map V.int)) ∧ (∀ i ∈ ns, -1 ≤ i ∧ i ≤ 1) ∧ (∀ i ∈ ms, -1 ≤ i ∧ i ≤ 1) ∧ ns.length ≤ 10000 ∧ ms.length ≤ 10000 ∧ j ≤ 10000 ∧
  ∀ (p : Addr) (os : List Int) (H' : Hp), H p = none → H' p = some (.lst (os.map V.int)) → Same H H' → IsF os → weigh os = weigh ns + weigh ms * 3 ^ j → Q (.ref p) H'
/-- the places with a lay that is not 0 -/
def laid (ms : List Int) (n : Nat) : List Nat := (List.range n).filter fun j => layAt ms j != 0
/-- a row: its place, its tuple, its sum's list, the sum -/
structure Row where
  j : Nat
  t : Addr
  q : Addr
  f : List Int
structure RowsAt (H H' : Hp) (ns ms : List Int) (n : Nat) (rs : List Row) : Prop where
  js : rs.map (·.j) = laid ms n
  row : ∀ r ∈ rs, H' r.t = some (.tup [.int r.j, .int (layAt ms r.j), .ref r.q]) ∧ H' r.q = some (.lst (r.f.map V.int)) ∧ IsF r.f ∧ weigh r.f = weigh ns * weigh (ms.take (r.j + 1)) ∧ H r.q = none ∧ r.f.length ≤ 3000
  apart : rs.Pairwise fun a b => a.q ≠ b.q
def spRows (K : PySem.W.Frag) (CF : Addr) : Sp := fun vs H Q E => ∃ x y, vs = [x, y] ∧ ((∃ ns ms, Good H x ns ∧ Good H y ms ∧ ns.length ≤ 1000 ∧ ms.length ≤ 1000 ∧ ∀ (p : Addr) (rs : List Row) (H' : Hp), H p = none → H' p = some (.lst (rs.map fun r => .ref r.t)) → Same H H' → RowsAt H H' ns ms ms.length rs → Q (.ref p) H') ∨ Refuses2 K CF x y H E)
theorem laid_succ (ms : List Int) (n : Nat) : laid ms (n + 1) = laid ms n ++ if layAt ms n != 0 then [n] else [] := by
  unfold laid
  rw [List.range_succ, List.filter_append]
  congr 1
  by_cases h : (layAt ms n != 0) = true
  · rw [if_pos h]; simp only [List.filter, h]
  · rw [if_neg h]
    have h' : (layAt ms n != 0) = false := by simpa using h
    simp only [List.filter, h']
theorem take_weigh {ms : List Int} {i : Nat} (h : i < ms.length) : weigh (ms.take (i + 1)) = weigh (ms.take i) + layAt ms i * 3 ^ i := by
  have e : ms.take (i + 1) = ms.take i ++ [layAt ms i] := by
    rw [List.take_add_one, List.getElem?_eq_getElem h, layAt_get (List.getElem?_eq_getElem h)]; rfl
  rw [e, weigh_snoc, List.length_take, Nat.min_eq_left (by omega)]
theorem weigh_scale (z : Int) : ∀ ns : List Int, weigh (ns.map fun a => z * a) = z * weigh ns
  | [] => by simp [weigh]
  | a :: r => by
    show z * a + 3 * weigh (r.map fun a => z * a) = z * (a + 3 * weigh r)
    rw [weigh_scale z r, Int.mul_add, ← Int.mul_assoc, ← Int.mul_assoc, Int.mul_comm 3 z]
end Pk
/-! texts: the landed program's own defs -/
namespace Pk
open PySem PySem.Spec PyProof.Rows L2
def signs : Str := ⟨#[60, 46, 62]⟩
def point : Str := ⟨#[46]⟩
/-- where a sign stands among the three -/
def findI (c : Nat) : Int := if c = 60 then 0 else if c = 46 then 1 else if c = 62 then 2 else -1
theorem find_sign (c : Nat) : PySem.Txt.find signs ⟨#[c]⟩ = findI c := by
  unfold findI signs
  have e0 : Builtin.Str.subAt ⟨#[60, 46, 62]⟩ ⟨#[c]⟩ 0 = decide (60 = c) := by
    show ((#[60] : Array Nat) == #[c]) = _
    by_cases h : 60 = c <;> simp [h]
  have e1 : Builtin.Str.subAt ⟨#[60, 46, 62]⟩ ⟨#[c]⟩ 1 = decide (46 = c) := by
    show ((#[46] : Array Nat) == #[c]) = _
    by_cases h : 46 = c <;> simp [h]
  have e2 : Builtin.Str.subAt ⟨#[60, 46, 62]⟩ ⟨#[c]⟩ 2 = decide (62 = c) := by
    show ((#[62] : Array Nat) == #[c]) = _
    by_cases h : 62 = c <;> simp [h]
  by_cases h0 : c = 60
  · subst h0; decide +kernel
  by_cases h1 : c = 46
  · subst h1; decide +kernel
  by_cases h2 : c = 62
  · subst h2; decide +kernel
  unfold PySem.Txt.find Builtin.Str.occurrences
  have f0 : decide (60 = c) = false := by simp; omega
  have f1 : decide (46 = c) = false := by simp; omega
  have f2 : decide (62 = c) = false := by simp; omega
  rw [if_neg h0, if_neg h1, if_neg h2]
  have hl : (⟨#[60, 46, 62]⟩ : Str).length = 3 := rfl
  have hl1 : (⟨#[c]⟩ : Str).length = 1 := rfl
  rw [hl]
  simp only [Std.Legacy.Range.forIn_eq_forIn_range', Std.Legacy.Range.size, hl1]
  simp [List.range', e0, e1, e2, f0, f1, f2]
/-- the lays that a text's signs come to, whatever they are -/
def laysIn (l : List Nat) : List Int := l.reverse.map fun c => findI c - 1
theorem layOf_find (c : Nat) : layOf c = if findI c = -1 then none else some (findI c - 1) := by
  unfold layOf findI
  by_cases h0 : c = 60
  · rw [if_pos h0, if_pos h0]; rfl
  by_cases h2 : c = 62
  · subst h2; rfl
  by_cases h1 : c = 46
  · rw [if_neg h0, if_neg h2, if_pos h1, if_neg h0, if_pos h1]; rfl
  · rw [if_neg h0, if_neg h2, if_neg h1, if_neg h0, if_neg h1, if_neg h2]; rfl
theorem findI_range (c : Nat) : -1 ≤ findI c ∧ findI c ≤ 2 := by unfold findI; repeat' split <;> omega
theorem laysOf_some : ∀ {l : List Nat} {r : List Int}, laysOf l = some r → r = l.map (fun c => findI c - 1) ∧ ∀ i ∈ r, -1 ≤ i ∧ i ≤ 1
  | [], r, h => by cases h; exact ⟨rfl, fun _ h => nomatch h⟩
  | c :: t, r, h => by
    have h' : (match layOf c, laysOf t with | some z, some t => some (z :: t) | _, _ => none) = some r := h
    rw [layOf_find] at h'
    by_cases e : findI c = -1
    · rw [if_pos e] at h'; cases h'
    · rw [if_neg e] at h'
      cases q : laysOf t with
      | none => rw [q] at h'; cases h'
      | some u =>
        rw [q] at h'
        cases h'
        obtain ⟨e1, e2⟩ := laysOf_some q
        have := findI_range c
        refine ⟨by rw [List.map_cons, ← e1], fun i hi => ?_⟩
        rcases List.mem_cons.mp hi with rfl | hi
        · omega
        · exact e2 i hi
theorem laysOf_none : ∀ {l : List Nat}, laysOf l = none → ∃ c ∈ l, findI c = -1
  | [], h => by cases h
  | c :: t, h => by
    have h' : (match layOf c, laysOf t with | some z, some t => some (z :: t) | _, _ => none) = none := h
    rw [layOf_find] at h'
    by_cases e : findI c = -1
    · exact ⟨c, List.mem_cons_self, e⟩
    · rw [if_neg e] at h'
      cases q : laysOf t with
      | none =>
        obtain ⟨d, hd, ed⟩ := laysOf_none q
        exact ⟨d, List.mem_cons_of_mem _ hd, ed⟩
      | some u => rw [q] at h'; cases h'
theorem findI_one {c : Nat} : findI c = 1 ↔ c = 46 := by
  unfold findI
  by_cases h0 : c = 60
  · rw [if_pos h0]; omega
  · rw [if_neg h0]
    by_cases h1 : c = 46
    · rw [if_pos h1]; omega
    · rw [if_neg h1]
      split <;> omega
/-- a text that is read is the text of the lays that its signs come to -/
theorem reads_form {z : Str} {ns : List Int} (h : readS z = some ns) (hp : z.cps.toList ≠ [46]) : z.cps.toList ≠ [] ∧ laysIn z.cps.toList = ns ∧ IsF ns := by
  unfold readS at h
  rw [if_neg hp] at h
  by_cases h0 : z.cps.toList = []
  · rw [if_pos h0] at h; cases h
  rw [if_neg h0] at h
  by_cases h1 : z.cps.toList.head? = some 46
  · rw [if_pos h1] at h; cases h
  rw [if_neg h1] at h
  cases q : laysOf z.cps.toList with
  | none => rw [q] at h; cases h
  | some r =>
    rw [q] at h
    have h : r.reverse = ns := Option.some.inj h
    obtain ⟨e1, e2⟩ := laysOf_some q
    refine ⟨h0, by unfold laysIn; rw [List.map_reverse, ← e1, h], ?_⟩
    subst h
    refine ⟨fun i hi => e2 i (List.mem_reverse.mp hi), fun e => ?_⟩
    rw [List.getLast?_reverse, e1, List.head?_map] at e
    cases g : z.cps.toList.head? with
    | none => rw [g] at e; cases e
    | some c =>
      rw [g] at e
      have : findI c - 1 = 0 := by simpa using e
      have c46 : c = 46 := findI_one.mp (by omega)
      exact h1 (by rw [g, c46])
theorem bad_ints {K : PySem.W.Frag} {H : Hp} : ∀ {ns : List Int}, ((∃ i ∈ ns, ¬ (-1 ≤ i ∧ i ≤ 1)) ∨ ((∀ i ∈ ns, -1 ≤ i ∧ i ≤ 1) ∧ ns.getLast? = some 0)) → BadL K H (ns.map V.int)
  | ns, .inr ⟨h, e⟩ => .inr ⟨ns, rfl, h, e⟩
  | [], .inl ⟨_, h, _⟩ => nomatch h
  | a :: r, .inl ⟨i, hi, hn⟩ => by
    by_cases ha : -1 ≤ a ∧ a ≤ 1
    · have hr : i ∈ r := by
        rcases List.mem_cons.mp hi with rfl | h
        · exact absurd ha hn
        · exact h
      rcases bad_ints (K := K) (H := H) (ns := r) (.inl ⟨i, hr, hn⟩) with ⟨pre, y, post, e, hp, hy⟩ | ⟨ms, e, hm, _⟩
      · refine .inl ⟨a :: pre, y, post, by rw [List.map_cons, e]; rfl, fun j hj => ?_, hy⟩
        rcases List.mem_cons.mp hj with rfl | hj
        · exact ha
        · exact hp j hj
      · have : r = ms := by
          have := congrArg (List.map fun v : V => match v with | .int i => i | _ => 0) e
          simpa [List.map_map, Function.comp_def] using this
        subst this
        exact absurd (hm i hr) hn
    · exact .inl ⟨[], .int a, r.map V.int, rfl, (fun _ h => nomatch h), .inl ⟨a, rfl, (decide_eq_false ha).symm⟩⟩
theorem ok_ints (ns : List Int) : (ns.map V.int).all okV = true := by
  rw [List.all_map]
  exact List.all_eq_true.mpr fun i _ => rfl
/-- a text that is not read, though it has signs, comes to lays that are no form's -/
theorem reads_none {K : PySem.W.Frag} {H : Hp} {z : Str} (h : readS z = none) (h0 : z.cps.toList ≠ []) : z.cps.toList ≠ [46] ∧ BadL K H ((laysIn z.cps.toList).map V.int) := by
  unfold readS at h
  by_cases hp : z.cps.toList = [46]
  · rw [if_pos hp] at h; cases h
  rw [if_neg hp, if_neg h0] at h
  refine ⟨hp, bad_ints ?_⟩
  cases q : laysOf z.cps.toList with
  | none =>
    obtain ⟨c, hc, e⟩ := laysOf_none q
    refine .inl ⟨findI c - 1, ?_, by omega⟩
    unfold laysIn
    exact List.mem_map.mpr ⟨c, List.mem_reverse.mpr hc, rfl⟩
  | some r =>
    obtain ⟨e1, e2⟩ := laysOf_some q
    have el : laysIn z.cps.toList = r.reverse := by unfold laysIn; rw [List.map_reverse, ← e1]
    refine .inr ⟨fun i hi => e2 i (by rw [el] at hi; exact List.mem_reverse.mp hi), ?_⟩
    by_cases h1 : z.cps.toList.head? = some 46
    · rw [el, List.getLast?_reverse, e1, List.head?_map, h1]; rfl
    · rw [if_neg h1, q] at h; cases h
/-- one sign after another, joined -/
theorem join_signs : ∀ l : List Nat, PySem.Txt.join ⟨#[]⟩ (l.map fun c => (⟨#[c]⟩ : Str)) = ⟨l.toArray⟩ := by
  intro l
  show Builtin.Str.glued ⟨#[]⟩ _ = _
  rw [StrLaws.glued_eq_join]
  induction l with
  | nil => rfl
  | cons c r ih =>
    cases r with
    | nil => rfl
    | cons d t =>
      show (⟨#[c]⟩ : Str) ++ ⟨#[]⟩ ++ Str.join ⟨#[]⟩ ((d :: t).map fun c => (⟨#[c]⟩ : Str)) = _
      rw [ih]
      show (⟨(#[c] ++ #[]) ++ (d :: t).toArray⟩ : Str) = _
      simp
theorem join_fits (l : List Nat) (h : l.length ≤ 100000) : JoinOk ⟨#[]⟩ (l.map fun c => (⟨#[c]⟩ : Str)) = true := by
  unfold JoinOk
  rw [StrLaws.joinTotal]
  have e : ((l.map fun c => (⟨#[c]⟩ : Str)).map (·.length)).sum = l.length := by
    rw [List.map_map]
    have : ∀ l : List Nat, (l.map ((fun x : Str => x.length) ∘ fun c => (⟨#[c]⟩ : Str))).sum = l.length := by
      intro l
      induction l with
      | nil => rfl
      | cons c r ih => rw [List.map_cons, List.sum_cons, ih]; show 1 + r.length = r.length + 1; omega
    exact this l
  rw [e]
  have z : (⟨#[]⟩ : Str).length = 0 := rfl
  rw [z, Nat.mul_zero, Nat.add_zero]
  unfold Builtin.Str.tooLong
  have := size63 h
  simp
  omega
theorem str_ext {z y : Str} (h : z.cps.toList = y.cps.toList) : z = y := by
  obtain ⟨⟨a⟩⟩ := z
  obtain ⟨⟨b⟩⟩ := y
  have : a = b := h
  rw [this]
def spLaysIn : Sp := fun vs H Q _ => ∃ z : Str, vs = [.str z] ∧ z.length ≤ 10001 ∧ ∀ (p : Addr) (H' : Hp), H p = none → H' p = some (.lst ((laysIn z.cps.toList).map V.int)) → Same H H' → Q (.ref p) H'
def spWrites : Sp := fun vs H Q _ => ∃ z : Str, vs = [.str z] ∧ z.length ≤ 10001 ∧ ∀ H', Same H H' → Q (.bl (readS z).isSome) H'
theorem sign_at {z : Int} (h : -1 ≤ z ∧ z ≤ 1) : atI signs.cps.toList (z + 1) = some (sign z) := by
  have : z = -1 ∨ z = 0 ∨ z = 1 := by omega
  rcases this with rfl | rfl | rfl <;> decide
theorem gl_mk {K : PySem.W.Frag} {mg : Str → Option Value} {h : Heap} {x : Str} {z y : Str} {tk : Tok} (X : K.In h) (G : h.Ns mainGlobals mg) (a : PySem.W.nsIn K mainGlobals x = some (some (.str z tk))) (e : z = y) : ∃ u, mg x = some u ∧ RelV (.str y) u :=
  ⟨_, PySem.W.mg_of X G a, tk, by rw [e]⟩
end Pk
/-! the laws of products and of texts: what their defs promise -/
namespace L2
open PySem PySem.Spec PyProof.Rows
theorem qs_par {X : Cx} {i j : Nat} {x y : Str} {a b : Expr} {ta : TA} {px py pt pos : Pos} {kt k2 pt2} (hN : X.N.Nodup) (ha : QA X [a, b] ta) (hi : X.N[i]? = some x := by rfl) (hj : X.N[j]? = some y := by rfl) (hij : i ≠ j := by decide) (hx : X.env.scope.names.lookup x = some .local := by rfl) (hy : X.env.scope.names.lookup y = some .local := by rfl) (hc : X.calm = true := by rfl)
    (hw : swappedStores [.Tuple [.Name x px, .Name y py] kt pt] (.Tuple [a, b] k2 pt2) X.env = pure (some [x, y]) := by rfl) (hs : swapsWithSole [.Tuple [.Name x px, .Name y py] kt pt] (.Tuple [a, b] k2 pt2) pos.line X.env = pure false := by rfl) :
    QS X (.Assign [.Tuple [.Name x px, .Name y py] kt pt] (.Tuple [a, b] k2 pt2) pos) (tPar i j ta) := .of (ps_par hc hN hi hj hij hx hy ha.to hw hs)
end L2
namespace Pk
open PySem PySem.Spec PyProof.Rows L2
def spRowIs7 : Sp := fun vs H Q _ => ∃ (t q : Addr) (j l due : Int) (f : List Int), vs = [.ref t, .int j, .int l, .int due] ∧ H t = some (.tup [.int j, .int l, .ref q]) ∧ H q = some (.lst (f.map V.int)) ∧ IsF f ∧ weigh f = due ∧ Q (.bl true) H
/-- rows as they stand: their places, tuples, sums -/
structure RowsIn (H : Hp) (ns ms : List Int) (rs : List Row) : Prop where
  js : rs.map (·.j) = laid ms ms.length
  row : ∀ r ∈ rs, H r.t = some (.tup [.int r.j, .int (layAt ms r.j), .ref r.q]) ∧ H r.q = some (.lst (r.f.map V.int)) ∧ IsF r.f ∧ weigh r.f = weigh ns * weigh (ms.take (r.j + 1)) ∧ r.f.length ≤ 3000
  apart : rs.Pairwise fun a b => a.q ≠ b.q
theorem RowsIn.same {H H' : Hp} {ns ms : List Int} {rs : List Row} (h : RowsIn H ns ms rs) (s : Same H H') : RowsIn H' ns ms rs := ⟨h.js, fun r hr => ⟨s _ _ (h.row r hr).1, s _ _ (h.row r hr).2.1, (h.row r hr).2.2⟩, h.apart⟩
theorem RowsAt.here {H H' : Hp} {ns ms : List Int} {rs : List Row} (h : RowsAt H H' ns ms ms.length rs) : RowsIn H' ns ms rs := ⟨h.js, fun r hr => ⟨(h.row r hr).1, (h.row r hr).2.1, (h.row r hr).2.2.1, (h.row r hr).2.2.2.1, (h.row r hr).2.2.2.2.2⟩, h.apart⟩
def spRowsAre : Sp := fun vs H Q _ => ∃ (p a b : Addr) (ns ms : List Int) (rs : List Row), vs = [.ref p, .ref a, .ref b] ∧ H p = some (.lst (rs.map fun r => .ref r.t)) ∧ H a = some (.lst (ns.map V.int)) ∧ H b = some (.lst (ms.map V.int)) ∧ IsF ns ∧ IsF ms ∧ ns.length ≤ 1000 ∧ ms.length ≤ 1000 ∧ RowsIn H ns ms rs ∧ ∀ H', Same H H' → Q (.bl true) H'
/-- kept but for what is told -/
def But (qs : List Addr) (H H' : Hp) : Prop := ∀ b o, H b = some o → b ∉ qs → H' b = some o
def spApart : Sp := fun vs H Q _ => ∃ (p : Addr) (ns ms : List Int) (rs : List Row), vs = [.ref p] ∧ H p = some (.lst (rs.map fun r => .ref r.t)) ∧ RowsIn H ns ms rs ∧ rs.length ≤ 1000 ∧ ∀ H', But (rs.map (·.q)) H H' → Q (.bl true) H'
def spRefused7 (K : PySem.W.Frag) : Sp := fun vs H Q _ => ∃ (which : Int) (x y : V) (ns : List Int), vs = [.int which, x, y] ∧ Bad K H x ∧ Good H y ns ∧ ns.length ≤ 100000 ∧ ∀ H', Same H H' → Q (.bl true) H'
theorem laid_lt {ms : List Int} {n j : Nat} (h : j ∈ laid ms n) : j < n ∧ layAt ms j ≠ 0 := by
  unfold laid at h
  obtain ⟨h1, h2⟩ := List.mem_filter.mp h
  exact ⟨List.mem_range.mp h1, by simpa using h2⟩
theorem laid_len (ms : List Int) (n : Nat) : (laid ms n).length ≤ n := by unfold laid; exact Nat.le_trans (List.length_filter_le _ _) (by simp)
/-- the last row's sum is the product -/
theorem last_row {H : Hp} {ns ms : List Int} {rs : List Row} (h : RowsIn H ns ms rs) (hm : IsF ms) : (rs = [] ∧ weigh ns * weigh ms = 0) ∨ ∃ r pre, rs = pre ++ [r] ∧ weigh r.f = weigh ns * weigh ms := by
  rcases List.eq_nil_or_concat ms with e | ⟨q, z, e⟩
  · subst e
    have j0 : rs.map (·.j) = [] := h.js
    exact .inl ⟨List.map_eq_nil_iff.mp j0, by simp [weigh]⟩
  · rw [List.concat_eq_append] at e
    have nz : z ≠ 0 := fun e0 => hm.last (by rw [e, e0]; simp)
    have lz : layAt ms q.length = z := layAt_get (by rw [e]; simp)
    have ll : ms.length = q.length + 1 := by rw [e]; simp
    have ej : rs.map (·.j) = laid ms q.length ++ [q.length] := by
      rw [h.js, ll, laid_succ, lz, if_pos (by simpa using nz)]
    rcases List.eq_nil_or_concat rs with e2 | ⟨pre, r, e2⟩
    · rw [e2] at ej
      exact absurd ej (by simp)
    · rw [List.concat_eq_append] at e2
      refine .inr ⟨r, pre, e2, ?_⟩
      rw [e2, List.map_append] at ej
      have := (List.append_inj' ej rfl).2
      have er : r.j = q.length := by simpa using this
      have w := (h.row r (by rw [e2]; simp)).2.2.2.1
      rw [w, er, ← ll, List.take_length]
end Pk
namespace Pk
open PySem PySem.Spec PyProof.Rows L2
theorem pair_ne {rs : List Row} (h : rs.Pairwise fun a b => a.q ≠ b.q) {i j : Nat} {r u : Row} (hj : rs[j]? = some u) (hi : rs[i]? = some r) (ne : j ≠ i) : u.q ≠ r.q := by
  obtain ⟨l1, e1⟩ := List.getElem?_eq_some_iff.mp hj
  obtain ⟨l2, e2⟩ := List.getElem?_eq_some_iff.mp hi
  have g := List.pairwise_iff_getElem.mp h
  by_cases c : j < i
  · have := g j i l1 l2 c
    rw [e1, e2] at this
    exact this
  · have := g i j l2 l1 (by omega)
    rw [e1, e2] at this
    exact Ne.symm this
end Pk
namespace Pk
open PySem PySem.Spec PyProof.Rows L2
theorem atI_last {α : Type} (pre : List α) (x : α) : atI (pre ++ [x]) (-1) = some x := by
  unfold atI ixN
  have l : (pre ++ [x]).length = pre.length + 1 := by simp
  have e : ((-1 : Int) + ((pre.length + 1 : Nat) : Int)).toNat = pre.length := by omega
  rw [l, if_neg (by decide), if_pos (by omega), e]
  show (pre ++ [x])[pre.length]? = some x
  simp
end Pk
/-! texts cut, walked and looked through; list.insert(0, x) -/
namespace L2
open PySem PySem.Spec PyProof.Rows
section
variable {X : Cx}
def rSlS : V → Option Int → Option Int → Hp → VK → Prop := fun x lo hi H Q => ∃ z : Str, x = .str z ∧ z.length ≤ sizeLine ∧ Q (.str (PySem.Txt.slice z lo hi)) H
theorem sl_str : SlR X rSlS := by
  intro pins s σ H x v vl vu lo hi sl Q I rx hs pl pu h
  obtain ⟨z, rfl, hz, q⟩ := h
  obtain ⟨t, rfl⟩ := rx
  have fin : ∀ (l u : Option (Int × Tok)), vl = partValue l → vu = partValue u → l.map (·.1) = lo → u.map (·.1) = hi → wpAny (model X.prog X.w) X.A (getItem (.str z t) (.ref sl)) (EP X pins σ Q) X.xe s := by
    rintro l u rfl rfl rfl rfl
    exact wpAny_getItem_str_slice (l := l) (u := u) (st := none) hs rfl (post_val_or_str ⟨Nat.le_trans (PySem.Txt.slice_le z _ _) hz, fun t' k => ⟨.str _, H, I.tok _, ⟨t', rfl⟩, q⟩⟩)
  refine ⟨"str", _, F.slot_str_getitem.lookup, typeIs_str _ _ _, ?_⟩
  cases pl with
  | none =>
    cases pu with
    | none => exact fin none none rfl rfl rfl rfl
    | int j uj => exact fin none (some (j, uj)) rfl rfl rfl rfl
  | int i ui =>
    cases pu with
    | none => exact fin (some (i, ui)) none rfl rfl rfl rfl
    | int j uj => exact fin (some (i, ui)) (some (j, uj)) rfl rfl rfl rfl
theorem q_sls : QSl X rSlS := .of sl_str
def rInsert0 : V → List V → Hp → VK → Prop := fun x vs H Q => ∃ l xs y, x = .ref l ∧ vs = [.int 0, y] ∧ H l = some (.lst xs) ∧ xs.length < sizeLine ∧ Q .non (upd H l (.lst (y :: xs)))
theorem mt_insert0 : MtR X "list.insert" rInsert0 := by
  intro pins s σ H x vs v us Q I rx rv h
  obtain ⟨l, xs, y, rfl, rfl, hH, hz, q⟩ := h
  cases rx
  cases rv with
  | cons r1 rr =>
    cases rr with
    | cons r2 rr =>
      cases rr
      obtain ⟨t, rfl⟩ := r1
      obtain ⟨z, its, n, r, hl, e⟩ := I.lstM hH
      refine call_meets F.slot_list_insert ⟨_, e, rfl⟩ F.entry_list_insert (F.args_list_insert_3 _ _ _) (PySem.AutoSeq1.list_insert_list_int_val_1 l its.toArray n 0 t _ (by decide) (by rw [List.size_toArray]; omega)) ⟨e, ?_⟩
      refine ⟨.non, _, I.lset (its' := _ :: its) hH e (by simp) (.cons r2 r) ?_, rfl, q⟩
      rw [List.length_cons]
      omega
theorem q_insert0 : QMt X "list.insert" rInsert0 := .of mt_insert0
theorem qe_bm2 {o e1 e2 : Expr} {to : TE} {t : TA} {name : Str} {apos cpos : Pos} {T id : String} {r : V → List V → Hp → VK → Prop} (pa : PlainAttrs T) (slot : Slot T name id) (hty : typeOf (.builtin id) = pure (.type "method_descriptor")) (hm : QMt X id r) (ho : QE X o to) (ha : QA X [e1, e2] t) (hbase : attributeBase o name X.env (eval o X.env) = eval o X.env := by rfl) (hline : (apos.endLine == cpos.line) = true := by rfl) (hs : noStars [e1, e2] = true := by rfl)
    (hfew : ((backTo cpos (starEach [e1, e2] X.env)).all (fun x => !x.1) && (backToKw cpos (keywordEach [] X.env)).all (fun x => x.1.isSome) && decide ([e1, e2].length + ([] : List Keyword).length + (if ([] : List Keyword).isEmpty then 0 else 1) < 30)) = true := by rfl) :
    QE X (.Call (.Attribute o name apos) [e1, e2] [] cpos) (tBM X.K T r to t) := by
  have h' : notStar e1 = true ∧ noStars [e2] = true := by simpa [noStars] using hs
  exact .of (pe_bm pa slot hty hm.to ho.to ha.to hbase hfew hline (star_of h'.1) (noStars_any h'.2))
/-- a not in b, of texts -/
theorem q_notin : QOp X (compareOp .NotIn) (fun x y H Q => ∃ i j, x = .str i ∧ y = .str j ∧ Q (.bl (!(!(Builtin.Str.occurrences j i 0 j.length 1).isEmpty))) H) := .of op_notin_str
theorem qt_notin {a b : Expr} {ta tb : TE} {pos : Pos} {r : R2} (ho : QOp X (compareOp .NotIn) r) (ha : QE X a ta) (hb : QE X b tb) (hm : behindInMarks .NotIn b = false := by rfl) : QT X (.Compare a [.NotIn] [b] pos) (tTest (tOp r ta tb)) := .of (pt_cmpR ho.to ha.to hb.to hm)
end
/-- a text's signs -/
def Itf (z : Str) : It := ⟨fun i _ => i < z.length, fun i H x H' => H' = H ∧ ∃ c, z.cps[i]? = some c ∧ x = .str ⟨#[c]⟩, fun i _ => z.length ≤ i⟩
theorem turn_ascii {P : Program} {w : World} {K : PySem.W.Frag} {tg : Expr} (it : Addr) (z : Str) (t : Tok) : Turn P w K tg (Itf z) [it] it (fun i h => h.IsStrIter it "str_ascii_iterator" z t i) where
  mem := by simp
  obj := fun i h st b hb => by
    have e : b = it := by simpa using hb
    subst e
    obtain ⟨o, e, _, d⟩ := st
    exact ⟨o, e, fun v z => by rw [d] at z; cases z⟩
  keep := fun i h h' st k => let ⟨o, ho, r⟩ := st; ⟨o, k it (by simp) o ho, r⟩
  item := by
    intro X hP hw hK hc i pins s σ H E I hf st hg
    subst hP hw hK
    obtain ⟨f0, f1, f2, f3, f4, f5⟩ := hf it (by simp)
    have hi : i < z.length := hg
    have hx : z.cps[i]? = some (z.cps[i]'hi) := Array.getElem?_eq_getElem _
    refine wpAny_pyNext_ascii_item st hx fun h' st' sb => ?_
    have I1 : Inv X pins σ H { s with heap := h', toks := s.toks + 1 } := I.turned (fun b o hb e => sb.extBut b o hb e) f0 f1 f3 f4 f5
    obtain ⟨o, e, c, d⟩ := id st'
    exact ⟨_, rfl, go_of (s := { s with heap := h', toks := s.toks + 1 }) (n := "str_ascii_iterator") e c d (by decide) ⟨.str ⟨#[_]⟩, H, I1, ⟨_, rfl⟩, ⟨rfl, _, hx, rfl⟩, st', fun b hb => (hf b hb).1⟩⟩
  done := by
    intro X hP hw hK hc i pins s σ H E I hf st hg
    subst hP hw hK
    obtain ⟨f0, f1, f2, f3, f4, f5⟩ := hf it (by simp)
    have hi : z.length ≤ i := hg
    exact wpAny_pyNext_ascii_end (I.ok.hd hc) st (Array.getElem?_eq_none hi) fun h' eb => ⟨rfl, I.turned (t' := s.toks) (fun b o hb e => eb b o hb e) f0 f1 f3 f4 f5⟩
  self := fun _ _ _ _ _ st h => wpAny_pyIter_striter_ascii st h
theorem turn_wide {P : Program} {w : World} {K : PySem.W.Frag} {tg : Expr} (it : Addr) (z : Str) (t : Tok) : Turn P w K tg (Itf z) [it] it (fun i h => h.IsStrIter it "str_iterator" z t i) where
  mem := by simp
  obj := fun i h st b hb => by
    have e : b = it := by simpa using hb
    subst e
    obtain ⟨o, e, _, d⟩ := st
    exact ⟨o, e, fun v z => by rw [d] at z; cases z⟩
  keep := fun i h h' st k => let ⟨o, ho, r⟩ := st; ⟨o, k it (by simp) o ho, r⟩
  item := by
    intro X hP hw hK hc i pins s σ H E I hf st hg
    subst hP hw hK
    obtain ⟨f0, f1, f2, f3, f4, f5⟩ := hf it (by simp)
    have hi : i < z.length := hg
    have hx : z.cps[i]? = some (z.cps[i]'hi) := Array.getElem?_eq_getElem _
    refine wpAny_pyNext_wide_item st hx fun h' st' sb => ?_
    have I1 : Inv X pins σ H { s with heap := h', toks := s.toks + 1 } := I.turned (fun b o hb e => sb.extBut b o hb e) f0 f1 f3 f4 f5
    obtain ⟨o, e, c, d⟩ := id st'
    exact ⟨_, rfl, go_of (s := { s with heap := h', toks := s.toks + 1 }) (n := "str_iterator") e c d (by decide) ⟨.str ⟨#[_]⟩, H, I1, ⟨_, rfl⟩, ⟨rfl, _, hx, rfl⟩, st', fun b hb => (hf b hb).1⟩⟩
  done := by
    intro X hP hw hK hc i pins s σ H E I hf st hg
    subst hP hw hK
    obtain ⟨f0, f1, f2, f3, f4, f5⟩ := hf it (by simp)
    have hi : z.length ≤ i := hg
    exact wpAny_pyNext_wide_end (I.ok.hd hc) st (Array.getElem?_eq_none hi) fun h' eb => ⟨rfl, I.turned (t' := s.toks) (fun b o hb e => eb b o hb e) f0 f1 f3 f4 f5⟩
  self := fun _ _ _ _ _ st h => wpAny_pyIter_striter_wide st h
def iStr (te : TE) : TI := fun σ H R => te σ H fun v H1 => ∃ z : Str, v = .str z ∧ R (Itf z) H1
section
variable {X : Cx}
theorem pi_str {a : Expr} {ta : TE} {tg : Expr} (ha : PE X a ta) : PI X tg a (iStr ta) := by
  intro pins s σ H R I h
  refine thn (ha pins s σ H _ I h) fun v s1 ⟨y, H1, I1, r1, q1⟩ => ?_
  obtain ⟨z, rfl, q⟩ := q1
  obtain ⟨t, rfl⟩ := r1
  have new : ∀ (o : Obj) (tn : Nat → Heap → Prop), Turn X.prog X.w X.K tg (Itf z) [s1.heap.objs.size] s1.heap.objs.size tn → tn 0 (s1.heap.push o) → PIE X pins σ tg R (.ref s1.heap.objs.size) { s1 with heap := s1.heap.push o } := fun o tn T st =>
    ⟨s1.heap.objs.size, [s1.heap.objs.size], tn, _, H1, rfl, I1.kept (t' := s1.toks) fun b o e => Heap.get?_push_of_some _ e, T, st, fun b hb => by
      have e : b = s1.heap.objs.size := by simpa using hb
      subst e
      exact I1.fpOk (Nat.le_refl _) (I1.hok.fresh (Nat.le_refl _)), q⟩
  cases ha : z.cps.all (· < 128) with
  | false => exact wpAny_pyIter_wide ha (new _ _ (turn_wide _ z t) ⟨_, Heap.get?_push_size _ rfl, rfl, rfl⟩)
  | true => exact wpAny_pyIter_ascii ha (new _ _ (turn_ascii _ z t) ⟨_, Heap.get?_push_size _ rfl, rfl, rfl⟩)
theorem qi_str {a : Expr} {ta : TE} {tg : Expr} (ha : QE X a ta) : QI X tg a (iStr ta) := .of (pi_str ha.to)
end
end L2
namespace Pk
open PySem PySem.Spec PyProof.Rows L2
theorem str_app (a b : Str) : (a ++ b).length = a.length + b.length := by
  show (a.cps ++ b.cps).size = a.cps.size + b.cps.size
  rw [Array.size_append]
/-- no text at all -/
def NoStr (K : PySem.W.Frag) (H : Hp) (x : V) : Prop := ∃ t, TyOf K H x (.type t) ∧ kitD t "str" = some false
def spSignBy : Sp := fun vs H Q _ => ∃ cell : Int, vs = [.int cell] ∧ ∀ z : Str, z.length = 1 → Q (.str z) H
def spLineBy : Sp := fun vs H Q _ => ∃ (way cell : Int) (line sg : Str), vs = [.int way, .str line, .int cell, .str sg] ∧ line.length ≤ 1000 ∧ sg.length = 1 ∧ ∀ z : Str, z.length ≤ 3000 → Q (.str z) H
def spDue4 (K : PySem.W.Frag) : Sp := fun vs H Q _ => ∃ x, vs = [x] ∧ ((∃ z : Str, x = .str z ∧ z.length ≤ 10001 ∧ (readS z = none → ∀ H', Same H H' → Q .non H') ∧ ∀ ns, readS z = some ns → ∀ (p : Addr) (H' : Hp), H p = none → H' p = some (.lst (ns.map V.int)) → Same H H' → Q (.ref p) H') ∨ (NoStr K H x ∧ Q .non H))
def spReads (K : PySem.W.Frag) : Sp := fun vs H Q _ => ∃ x d, vs = [x, d] ∧ ((∃ (z : Str) (ns : List Int) (b : Addr), x = .str z ∧ readS z = some ns ∧ z.length ≤ 10001 ∧ d = .ref b ∧ H b = some (.lst (ns.map V.int)) ∧ ns.length ≤ 10001 ∧ ∀ H', Same H H' → Q (.bl true) H') ∨
  (d = .non ∧ ((∃ z : Str, x = .str z ∧ readS z = none ∧ z.length ≤ 10001) ∨ NoStr K H x) ∧ ∀ H', Same H H' → Q (.bl true) H'))
theorem occ_empty (c : Nat) : (Builtin.Str.occurrences signs ⟨#[c]⟩ 0 signs.length 1).isEmpty = decide (findI c = -1) := by
  have h := find_sign c
  unfold PySem.Txt.find at h
  cases e : Builtin.Str.occurrences signs ⟨#[c]⟩ 0 signs.length 1 with
  | nil =>
    rw [e] at h
    have h : (-1 : Int) = findI c := h
    rw [decide_eq_true h.symm]; rfl
  | cons i r =>
    rw [e] at h
    have h : (i : Int) = findI c := h
    rw [decide_eq_false (by omega)]; rfl
theorem laysOf_snoc : ∀ {l : List Nat} {r : List Int} {c : Nat} {z : Int}, laysOf l = some r → layOf c = some z → laysOf (l ++ [c]) = some (r ++ [z])
  | [], r, c, z, h, g => by
    cases h
    show (match layOf c, laysOf [] with | some z, some t => some (z :: t) | _, _ => none) = _
    rw [g]; rfl
  | d :: t, r, c, z, h, g => by
    have h' : (match layOf d, laysOf t with | some z, some t => some (z :: t) | _, _ => none) = some r := h
    cases q1 : layOf d with
    | none => rw [q1] at h'; cases h'
    | some u =>
      cases q2 : laysOf t with
      | none => rw [q1, q2] at h'; cases h'
      | some t' =>
        rw [q1, q2] at h'
        cases h'
        have ih := laysOf_snoc q2 g
        show (match layOf d, laysOf (t ++ [c]) with | some z, some t => some (z :: t) | _, _ => none) = _
        rw [q1, ih]; rfl
/-- a sign that is none of the three: the text writes no form -/
theorem reads_bad {z : Str} {c : Nat} (h : c ∈ z.cps.toList) (e : findI c = -1) : readS z = none := by
  unfold readS
  have n1 : z.cps.toList ≠ [46] := fun q => by
    rw [q] at h
    have : c = 46 := by simpa using h
    subst this
    exact absurd e (by decide)
  have n0 : z.cps.toList ≠ [] := fun q => by rw [q] at h; cases h
  rw [if_neg n1, if_neg n0]
  split
  · rfl
  · cases q : laysOf z.cps.toList with
    | none => rfl
    | some r =>
      obtain ⟨e1, e2⟩ := laysOf_some q
      have := e2 (findI c - 1) (by rw [e1]; exact List.mem_map.mpr ⟨c, h, rfl⟩)
      omega
theorem read_len {z : Str} {ns : List Int} (h : readS z = some ns) : ns.length ≤ z.length := by
  by_cases hp : z.cps.toList = [46]
  · unfold readS at h
    rw [if_pos hp] at h
    cases h
    exact Nat.zero_le _
  · obtain ⟨_, e, _⟩ := reads_form h hp
    rw [← e]
    unfold laysIn
    rw [List.length_map, List.length_reverse]
    simp [Str.length]
end Pk
namespace Pk
open PySem PySem.Spec PyProof.Rows L2
theorem sign_is {c d : Nat} {y : Str} (hy : y.cps.toList = [d]) (h : decide (V.str ⟨#[c]⟩ = V.str y) = true) : c = d := by
  have := of_decide_eq_true h
  injection this with this
  have := congrArg (fun z : Str => z.cps.toList) this
  rw [hy] at this
  simpa using this
theorem sign_not {c d : Nat} {y : Str} (hy : y.cps.toList = [d]) (h : ¬ decide (V.str ⟨#[c]⟩ = V.str y) = true) : c ≠ d := fun e => h (decide_eq_true (by
  have : (⟨#[c]⟩ : Str) = y := str_ext (by rw [hy, e])
  rw [this]))
theorem reads_point {z : Str} (h : 1 < z.length) (e : z.cps.toList.head? = some 46) : readS z = none := by
  have zl : z.cps.toList.length = z.length := by simp [Str.length]
  unfold readS
  rw [if_neg (fun q => by rw [q] at zl; simp at zl; omega), if_neg (fun q => by rw [q] at e; cases e), if_pos e]
theorem reads_all {z : Str} {r : List Int} (h0 : z.cps.toList ≠ []) (h1 : z.cps.toList.head? = some 46 → z = point) (h : laysOf z.cps.toList = some r) : readS z = some (if z = point then [] else r.reverse) := by
  by_cases e : z = point
  · subst e
    rw [if_pos rfl]; decide
  · rw [if_neg e]
    unfold readS
    have n1 : ¬ z.cps.toList = [46] := fun q => e (str_ext (y := point) q)
    rw [if_neg n1, if_neg h0, if_neg (fun q => e (h1 q)), h]
    rfl
theorem noStr_str {K : PySem.W.Frag} {H : Hp} {z : Str} (h : NoStr K H (.str z)) : False := by
  obtain ⟨t, ht, hk⟩ := h
  cases ht
  revert hk
  decide +kernel
end Pk

/-! THE LAW AND THE PROGRAM -/
namespace Pk
open PySem PySem.Spec PyProof.Rows L2
def top (i : Nat) : Stmt := PySem.Challenge.pw_poisescale_k04_written_and_read.main.body.getD i (.Pass ⟨0, 0, 0, 0⟩)
abbrev st_is_whole : Stmt := top 7
abbrev st_is_lay : Stmt := top 8
abbrev st_is_form : Stmt := top 9
abbrev st_require_form : Stmt := top 10
abbrev st_shown : Stmt := top 14
abbrev st_lays_in : Stmt := top 15
abbrev st_writes_form : Stmt := top 16
abbrev st_read : Stmt := top 17
abbrev st__law_cell_at : Stmt := top 19
abbrev st__law_whole : Stmt := top 20
abbrev st__law_form_by : Stmt := top 21
abbrev st__law_bad_by : Stmt := top 22
abbrev st__law_sign_by : Stmt := top 23
abbrev st__law_line_by : Stmt := top 24
abbrev st__law_due : Stmt := top 25
abbrev st__law_shows_none : Stmt := top 26
abbrev st__law_reads : Stmt := top 27
abbrev st_law : Stmt := top 28
section
variable {P : Program} {w : World} {K : PySem.W.Frag} {mg : Str → Option Value} {base : Heap} {CS CF CN CT CP : Addr}
theorem sc_is_whole : FnScope ["thing"] ["thing"] (defScope st_is_whole) := ⟨rfl, rfl, rfl, by decide +kernel, rfl, by decide +kernel, by decide +kernel⟩
theorem ok_is_whole (D : DefAt K mg "is_whole" st_is_whole) (T : Txt K mg CS CF CN CT CP) : Callee P w K mg base 1 "is_whole" ["thing"] (spWhole K) := by
  refine callee_nox D sc_is_whole (fun vs H Q E h => ?_) (fun _ _ _ _ _ _ us hl => match us, hl with | [_], _ => by kernel_rfl) (fun f cdv A outer s H vs Q E hr h => ?_)
  · obtain ⟨x, b, rfl, _⟩ := h
    rfl
  · obtain ⟨x, b, rfl, hw, k⟩ := h
    have nd := sc_is_whole.nd
    refine ⟨_, (qss_one (qs_ret (qe_and (qe_isiT (K := K) T.isi T.int PyProof.Rows.Boot.«int» (qv 0)) (qe_one (qe_not (qe_isiT (K := K) T.isi T.bool PyProof.Rows.Boot.«bool» (qv 0))))))), ?_⟩
    rcases hw with ⟨i, rfl, rfl⟩ | ⟨⟨c, rfl⟩ | ⟨t, ty, hk⟩, rfl⟩
    · exact ⟨_, rfl, rfl, _, true, .inl (.int i), kitT (by decide +kernel), true, rfl, iteT ⟨_, rfl, rfl, _, false, .inl (.int i), kitT (by decide +kernel), false, rfl, k⟩⟩
    · exact ⟨_, rfl, rfl, _, true, .inl (.bl c), kitT (by decide +kernel), true, rfl, iteT ⟨_, rfl, rfl, _, true, .inl (.bl c), kitT (by decide +kernel), true, rfl, k⟩⟩
    · exact ⟨_, rfl, rfl, _, false, .inl ty, kitT hk, false, rfl, iteF k⟩
theorem sc_is_lay : FnScope ["thing"] ["thing"] (defScope st_is_lay) := ⟨rfl, rfl, rfl, by decide +kernel, rfl, by decide +kernel, by decide +kernel⟩
theorem ok_is_lay (D : DefAt K mg "is_lay" st_is_lay) (C_is_whole : Callee P w K mg base 1 "is_whole" ["thing"] (spWhole K)) : Callee P w K mg base 2 "is_lay" ["thing"] (spLay K) := by
  refine callee_nox D sc_is_lay (fun vs H Q E h => ?_) (fun _ _ _ _ _ _ us hl => match us, hl with | [_], _ => by kernel_rfl) (fun f cdv A outer s H vs Q E hr h => ?_)
  · obtain ⟨x, b, rfl, _⟩ := h
    rfl
  · obtain ⟨x, b, rfl, hw, k⟩ := h
    have nd := sc_is_lay.nd
    refine ⟨_, (qss_one (qs_ret (qe_and (qe_def C_is_whole hr qpN (qa (qv 0) qa_nil)) (qe_one (qe_chain q_le q_le (qe_un q_neg qe_int) (qv 0) qe_int))))), ?_⟩
    rcases hw with ⟨i, rfl, rfl⟩ | ⟨hn, rfl⟩
    · refine ⟨_, rfl, _, true, rfl, .inl ⟨i, rfl, rfl⟩, true, rfl, iteT ?_⟩
      refine ⟨1, rfl, _, rfl, _, _, rfl, rfl, _, rfl, ?_⟩
      refine ite2 (fun h1 => ⟨_, _, rfl, rfl, ?_⟩) fun h1 => ?_
      · have h1 := of_decide_eq_true h1
        have e : decide (i ≤ 1) = decide (-1 ≤ i ∧ i ≤ 1) := by simp [h1]
        show Q (.bl (decide (i ≤ 1))) H
        rw [e]; exact k
      · have e : decide (-1 ≤ i ∧ i ≤ 1) = false := by
          have h1 : ¬ (-1 ≤ i) := fun z => h1 (decide_eq_true z)
          simp [h1]
        show Q (.bl false) H
        rw [← e]; exact k
    · exact ⟨_, rfl, _, false, rfl, .inr ⟨hn, rfl⟩, false, rfl, iteF k⟩
theorem sc_is_form : FnScope ["thing", "lay"] ["thing"] (defScope st_is_form) := ⟨rfl, rfl, rfl, by decide +kernel, rfl, by decide +kernel, by decide +kernel⟩
theorem ok_is_form (D : DefAt K mg "is_form" st_is_form) (T : Txt K mg CS CF CN CT CP) (C_is_lay : Callee P w K mg base 2 "is_lay" ["thing"] (spLay K)) : Callee P w K mg base 3 "is_form" ["thing"] (spForm K) := by
  refine callee_nox D sc_is_form (fun vs H Q E h => ?_) (fun _ _ _ _ _ _ us hl => match us, hl with | [_], _ => by kernel_rfl) (fun f cdv A outer s H vs Q E hr h => ?_)
  · obtain ⟨x, rfl, _⟩ := h
    rfl
  · obtain ⟨x, rfl, h⟩ := h
    have nd := sc_is_form.nd
    refine ⟨_, (qss (qs_if (qt_not (qt_val (qe_isiT (K := K) T.isi T.list PyProof.Rows.Boot.«list» (qv 0)))) (qss_one (qs_ret qe_bl)) qss_nil)
      (qss (qs_for (qi_list (qv 0)) (qg_name (i := 1) nd) (qss_one (qs_if (qt_not (qt_val (qe_def C_is_lay hr qpN (qa (qv 1) qa_nil)))) (qss_one (qs_ret qe_bl)) qss_nil)))
      (qss_one (qs_ret (qe_or (qe_cmp q_eq (qe_callB q_len T.len PyProof.Rows.Boot.«len» (qa (qv 0) qa_nil)) qe_int) (qe_one (qe_cmp q_ne (qe_ix q_ixl (qv 0) (qe_un q_neg qe_int)) qe_int))))))), ?_⟩
    rcases h with ⟨ns, ⟨a, rfl, ha, hf⟩, k⟩ | ⟨⟨t, ty, hk⟩ | ⟨a, xs, rfl, ha, hb, _⟩, k⟩
    · refine ⟨_, rfl, rfl, _, true, .inl (.lst ha), kitT (by decide +kernel), true, rfl, iteF ?_⟩
      refine ⟨_, rfl, a, rfl, ⟨_, SqL.of ha⟩, for_list (K := K) (a := a) (xs := ns.map V.int) (fun i σ H2 => H2 = H ∧ ∃ v, σ = [some (.ref a), v]) ⟨rfl, none, rfl⟩ (fun i σ H2 _ ⟨e, _⟩ => by rw [e]; exact SqL.of ha) ?_ ?_⟩
      · rintro i y σ H2 hi ⟨rfl, v, rfl⟩
        obtain ⟨z, hz, rfl⟩ := at_int hi
        have lz := hf.lays z (List.mem_of_getElem? hz)
        exact ⟨_, rfl, _, true, rfl, .inl ⟨z, rfl, (decide_eq_true lz).symm⟩, true, rfl, iteF ⟨rfl, _, rfl⟩⟩
      · rintro σ H2 ⟨rfl, v, rfl⟩
        exact form_end K Q ha hf.last k
    · exact ⟨_, rfl, rfl, _, false, .inl ty, kitT hk, false, rfl, iteT k⟩
    · refine ⟨_, rfl, rfl, _, true, .inl (.lst ha), kitT (by decide +kernel), true, rfl, iteF ?_⟩
      rcases hb with ⟨pre, y, post, rfl, hp, hy⟩ | ⟨ns, rfl, hp, hl⟩
      · refine ⟨_, rfl, a, rfl, ⟨_, SqL.of ha⟩, for_list (K := K) (a := a) (xs := pre.map V.int ++ y :: post) (fun i σ H2 => i ≤ pre.length ∧ H2 = H ∧ ∃ v, σ = [some (.ref a), v]) ⟨Nat.zero_le _, rfl, none, rfl⟩ (fun i σ H2 _ ⟨_, e, _⟩ => by rw [e]; exact SqL.of ha) ?_ ?_⟩
        · rintro i u σ H2 hi ⟨hle, rfl, v, rfl⟩
          by_cases he : i = pre.length
          · subst he
            have eu : u = y := by
              rw [List.getElem?_append_right (by simp)] at hi
              simpa using hi.symm
            subst eu
            exact ⟨_, rfl, _, false, rfl, hy, false, rfl, iteT k⟩
          · have hlt : i < pre.length := by omega
            rw [List.getElem?_append_left (by simpa using hlt)] at hi
            obtain ⟨z, hz, rfl⟩ := at_int hi
            have lz := hp z (List.mem_of_getElem? hz)
            exact ⟨_, rfl, _, true, rfl, .inl ⟨z, rfl, (decide_eq_true lz).symm⟩, true, rfl, iteF ⟨by omega, rfl, _, rfl⟩⟩
        · rintro σ H2 ⟨hle, _⟩
          simp at hle
          omega
      · refine ⟨_, rfl, a, rfl, ⟨_, SqL.of ha⟩, for_list (K := K) (a := a) (xs := ns.map V.int) (fun i σ H2 => H2 = H ∧ ∃ v, σ = [some (.ref a), v]) ⟨rfl, none, rfl⟩ (fun i σ H2 _ ⟨e, _⟩ => by rw [e]; exact SqL.of ha) ?_ ?_⟩
        · rintro i y σ H2 hi ⟨rfl, v, rfl⟩
          obtain ⟨z, hz, rfl⟩ := at_int hi
          have lz := hp z (List.mem_of_getElem? hz)
          exact ⟨_, rfl, _, true, rfl, .inl ⟨z, rfl, (decide_eq_true lz).symm⟩, true, rfl, iteF ⟨rfl, _, rfl⟩⟩
        · rintro σ H2 ⟨rfl, v, rfl⟩
          have hne : ns ≠ [] := by rintro rfl; simp at hl
          obtain ⟨r, e⟩ := List.getLast?_eq_some_iff.mp hl
          subst e
          have len0 : ¬ (V.int (((r ++ [0]).map V.int).length : Nat) = V.int 0) := by
            intro z
            injection z with z
            simp at z
            omega
          refine ⟨_, rfl, a, _, rfl, .inl (SqL.of ha), rfl, _, rfl, ?_⟩
          rw [decide_eq_false len0]
          refine iteF ⟨_, rfl, 1, rfl, a, _, -1, .int 0, rfl, rfl, SqL.of ha, ?_, rfl, ?_⟩
          · rw [List.map_append]
            exact atI_last _ _
          · exact k
theorem sc_require_form : FnScope ["thing"] ["thing"] (defScope st_require_form) := ⟨rfl, rfl, rfl, by decide +kernel, rfl, by decide +kernel, by decide +kernel⟩
theorem ok_require_form (D : DefAt K mg "require_form" st_require_form) (T : Txt K mg CS CF CN CT CP) (C_is_form : Callee P w K mg base 3 "is_form" ["thing"] (spForm K)) : Callee P w K mg base 4 "require_form" ["thing"] (spReq K CF) := by
  refine callee_of D sc_require_form (fun vs H Q E h => ?_) (fun _ _ _ _ _ _ us hl => match us, hl with | [_], _ => by kernel_rfl) (fun f cdv A outer s H vs Q E hr h => ?_)
  · obtain ⟨x, rfl, _⟩ := h
    rfl
  · obtain ⟨x, rfl, h⟩ := h
    refine ⟨_, (qss_one (qs_if (qt_not (qt_val (qe_def C_is_form hr qpX (qa (qv 0) qa_nil)))) (qss_one (qs_raise PySem.F.excBase_ValueError T.mF T.xF)) qss_nil)), ?_⟩
    rcases h with ⟨ns, hg, k⟩ | ⟨hb, k⟩
    · exact ⟨_, rfl, _, rfl, .inl ⟨ns, hg, true, rfl, iteF k⟩⟩
    · exact ⟨_, rfl, _, rfl, .inr ⟨hb, false, rfl, iteT k⟩⟩
theorem sc_shown : FnScope ["form"] ["form"] (defScope st_shown) := ⟨rfl, rfl, rfl, by decide +kernel, rfl, by decide +kernel, by decide +kernel⟩
theorem ok_shown (D : DefAt K mg "shown" st_shown) (T : Txt K mg CS CF CN CT CP) (G_SIGNS : ∃ u, mg "SIGNS" = some u ∧ RelV (.str signs) u) (G_WITHOUT_LAYS : ∃ u, mg "WITHOUT_LAYS" = some u ∧ RelV (.str point) u) (C_require_form : Callee P w K mg base 4 "require_form" ["thing"] (spReq K CF)) : Callee P w K mg base 5 "shown" ["form"] (spShown K CF) := by
  obtain ⟨u1, G_SIGNS⟩ := G_SIGNS
  obtain ⟨u2, G_WITHOUT_LAYS⟩ := G_WITHOUT_LAYS
  refine callee_of D sc_shown (fun vs H Q E h => ?_) (fun _ _ _ _ _ _ us hl => match us, hl with | [_], _ => by kernel_rfl) (fun f cdv A outer s H vs Q E hr h => ?_)
  · obtain ⟨x, rfl, _⟩ := h
    rfl
  · obtain ⟨x, rfl, h⟩ := h
    have nd := sc_shown.nd
    refine ⟨_, (qss (qs_expr (qe_def C_require_form hr qpX (qa (qv 0) qa_nil)))
      (qss (qs_if (qt_cmp q_eq (qe_callB q_len T.len PyProof.Rows.Boot.«len» (qa (qv 0) qa_nil)) qe_int) (qss_one (qs_ret (qe_gl G_WITHOUT_LAYS))) qss_nil)
      (qss_one (qs_ret (qe_bm1 PySem.F.plainAttrs_str PySem.F.slot_str_join PySem.F.type_str_join q_join qe_str (qe_comp ["lay"] [none] (qi_rev T.reversed (qv 0)) (fun C5 fp5 s5 H5 => (qg_name (i := 0) (by decide +kernel : (["lay"] : List Str).Nodup))) (fun C5 fp5 s5 H5 => qts_nil) (fun C5 fp5 s5 H5 => (qe_ix q_ixs (qe_gl G_SIGNS) (qe_op q_add (qv 0) qe_int))))))))), ?_⟩
    rcases h with ⟨ns, hg, hlen, k⟩ | ⟨hb, k⟩
    · obtain ⟨a, rfl, ha, hf⟩ := id hg
      refine ⟨_, rfl, _, rfl, .inl ⟨ns, hg, ?_⟩⟩
      refine ⟨_, rfl, a, _, rfl, .inl (SqL.of ha), rfl, _, rfl, ite2 (fun h1 => ?_) fun h1 => ?_⟩
      · have e : ns = [] := by
          have : ((ns.map V.int).length : Int) = 0 := dec_int_iff.mp h1
          rw [List.length_map] at this
          exact List.length_eq_zero_iff.mp (by omega)
        subst e
        exact k H fun _ _ e => e
      · have ne : ns ≠ [] := fun e => h1 (by subst e; rfl)
        refine ⟨rfl, _, rfl, a, _, rfl, SqL.of ha, fun D hD => comp_on (n := (ns.map V.int).length) (fun i vs σ H2 => vs = ((ns.reverse.take i).map fun z => (⟨#[sign z]⟩ : Str)).map V.str ∧ (∃ v, σ = [v]) ∧ H2 D = some (.lst vs) ∧ Same H H2) ⟨rfl, ⟨none, rfl⟩, upd_same, same_new hD⟩ ?_ ?_⟩
        · rintro vs σ H2 ⟨rfl, ⟨v, rfl⟩, h2, s2⟩
          rw [List.length_map, ← List.length_reverse, List.take_length] at h2
          refine ⟨rfl, _, D, _, rfl, rfl, SqL.of h2, ?_, ?_⟩
          · have e : (ns.reverse.map fun z => (⟨#[sign z]⟩ : Str)) = (ns.reverse.map sign).map fun c => (⟨#[c]⟩ : Str) := by rw [List.map_map]; rfl
            rw [e]
            exact join_fits _ (by rw [List.length_map, List.length_reverse]; omega)
          · have e : (ns.reverse.map fun z => (⟨#[sign z]⟩ : Str)) = (ns.reverse.map sign).map fun c => (⟨#[c]⟩ : Str) := by rw [List.map_map]; rfl
            have q := k H2 s2
            unfold txtOf at q
            rw [if_neg ne, ← join_signs, ← e] at q
            exact q
        · rintro i vs σ H2 hi ⟨rfl, ⟨v, rfl⟩, h2, s2⟩
          rw [List.length_map] at hi
          have hx : (ns.map V.int)[(ns.map V.int).length - 1 - i]? = some (V.int (ns[ns.length - 1 - i]'(by omega))) := by rw [List.length_map, List.getElem?_map, List.getElem?_eq_getElem (by omega)]; rfl
          refine ⟨⟨by rw [List.length_map]; exact hi, _, _, SqL.of (s2 _ _ ha), hx⟩, fun x H3 R y hR => ?_⟩
          obtain ⟨rfl, y⟩ := y
          have ex := y _ (SqL.of (s2 _ _ ha))
          rw [hx] at ex
          have ex : V.int (ns[ns.length - 1 - i]'(by omega)) = x := Option.some.inj ex
          subst ex
          have hr2 : ns.reverse[i]? = some (ns[ns.length - 1 - i]'(by omega)) := by rw [List.getElem?_reverse hi, List.getElem?_eq_getElem (by omega)]
          generalize ns[ns.length - 1 - i]'(by omega) = z at hr2 ⊢
          have lz := hf.lays z (List.mem_reverse.mp (List.mem_of_getElem? hr2))
          refine step_name ⟨_, rfl, _, _, rfl, rfl, signs, _, sign z, rfl, rfl, (by decide), sign_at lz, h2, size63 (by simp; omega), hR _ _ _ ⟨?_, ⟨_, rfl⟩, upd_same, same_upd s2 hD⟩⟩
          rw [List.take_add_one, hr2, List.map_append, List.map_append]
          rfl
    · exact ⟨_, rfl, _, rfl, .inr ⟨hb, k⟩⟩
theorem sc_lays_in : FnScope ["text"] ["text"] (defScope st_lays_in) := ⟨rfl, rfl, rfl, by decide +kernel, rfl, by decide +kernel, by decide +kernel⟩
theorem ok_lays_in (D : DefAt K mg "lays_in" st_lays_in) (T : Txt K mg CS CF CN CT CP) (G_SIGNS : ∃ u, mg "SIGNS" = some u ∧ RelV (.str signs) u) : Callee P w K mg base 1 "lays_in" ["text"] spLaysIn := by
  obtain ⟨u1, G_SIGNS⟩ := G_SIGNS
  refine callee_nox D sc_lays_in (fun vs H Q E h => ?_) (fun _ _ _ _ _ _ us hl => match us, hl with | [_], _ => by kernel_rfl) (fun f cdv A outer s H vs Q E hr h => ?_)
  · obtain ⟨z, rfl, _⟩ := h
    rfl
  · obtain ⟨z, rfl, hz, k⟩ := h
    have zl : z.cps.toList.length = z.length := by simp [Str.length]
    refine ⟨_, (qss_one (qs_ret (qe_comp ["sign"] [none] (qi_revs T.reversed (qv 0)) (fun C5 fp5 s5 H5 => (qg_name (i := 0) (by decide +kernel : (["sign"] : List Str).Nodup))) (fun C5 fp5 s5 H5 => qts_nil) (fun C5 fp5 s5 H5 => (qe_op q_sub (qe_bm1C PySem.F.plainAttrs_str PySem.F.slot_str_find PySem.F.type_str_find q_find (qe_gl G_SIGNS) (qv 0)) qe_int))))), ?_⟩
    refine ⟨_, rfl, z, rfl, Nat.lt_of_le_of_lt hz (by decide), fun D hD => comp_on (n := z.length) (fun i vs σ H2 => vs = ((z.cps.toList.reverse.take i).map fun c => findI c - 1).map V.int ∧ (∃ v, σ = [v]) ∧ H2 D = some (.lst vs) ∧ Same H H2) ⟨rfl, ⟨none, rfl⟩, upd_same, same_new hD⟩ ?_ ?_⟩
    · rintro vs σ H2 ⟨rfl, ⟨v, rfl⟩, h2, s2⟩
      rw [← zl, ← List.length_reverse, List.take_length] at h2
      exact ⟨Nat.le_refl _, k D H2 hD h2 s2⟩
    · rintro i vs σ H2 hi ⟨rfl, ⟨v, rfl⟩, h2, s2⟩
      refine ⟨hi, fun x H3 R y hR => ?_⟩
      obtain ⟨rfl, c, hc, rfl⟩ := y
      have hr2 : z.cps.toList.reverse[i]? = some c := by
        rw [List.getElem?_reverse (by rw [zl]; exact hi), zl]
        simpa using hc
      refine step_name ⟨rfl, _, rfl, signs, ⟨#[c]⟩, rfl, rfl, ?_⟩
      rw [find_sign]
      refine ⟨_, _, rfl, rfl, h2, size63 (by simp; omega), hR _ _ _ ⟨?_, ⟨_, rfl⟩, upd_same, same_upd s2 hD⟩⟩
      rw [List.take_add_one, hr2, List.map_append, List.map_append]
      rfl
theorem sc_writes_form : FnScope ["text"] ["text"] (defScope st_writes_form) := ⟨rfl, rfl, rfl, by decide +kernel, rfl, by decide +kernel, by decide +kernel⟩
theorem ok_writes_form (D : DefAt K mg "writes_form" st_writes_form) (T : Txt K mg CS CF CN CT CP) (G_WITHOUT_LAYS : ∃ u, mg "WITHOUT_LAYS" = some u ∧ RelV (.str point) u) (C_lays_in : Callee P w K mg base 3 "lays_in" ["text"] spLaysIn) (C_is_form : Callee P w K mg base 3 "is_form" ["thing"] (spForm K)) : Callee P w K mg base 4 "writes_form" ["text"] spWrites := by
  obtain ⟨u2, G_WITHOUT_LAYS⟩ := G_WITHOUT_LAYS
  refine callee_nox D sc_writes_form (fun vs H Q E h => ?_) (fun _ _ _ _ _ _ us hl => match us, hl with | [_], _ => by kernel_rfl) (fun f cdv A outer s H vs Q E hr h => ?_)
  · obtain ⟨z, rfl, _⟩ := h
    rfl
  · obtain ⟨z, rfl, hz, k⟩ := h
    refine ⟨_, (qss_one (qs_ret (qe_or (qe_cmp q_eq (qv 0) (qe_gl G_WITHOUT_LAYS)) (qe_one (qe_and (qe_cmp q_ne (qv 0) qe_str) (qe_one (qe_def C_is_form hr qpN (qa (qe_def C_lays_in hr qpN (qa (qv 0) qa_nil)) qa_nil)))))))), ?_⟩
    by_cases hp : z.cps.toList = [46]
    · have ez : z = point := str_ext hp
      subst ez
      refine ⟨_, rfl, rfl, true, rfl, iteT ?_⟩
      exact k H fun _ _ e => e
    · have nz : ¬ (V.str z = V.str point) := fun e => hp (by injection e with e; rw [e]; rfl)
      refine ⟨_, rfl, rfl, false, by rw [decide_eq_false nz], iteF ?_⟩
      by_cases h0 : z.cps.toList = []
      · have ez : z = ⟨#[]⟩ := str_ext h0
        subst ez
        refine ⟨_, rfl, rfl, false, rfl, iteF ?_⟩
        exact k H fun _ _ e => e
      · have nz0 : ¬ (V.str z = V.str (Str.ofString "")) := fun e => h0 (by injection e with e; rw [e]; rfl)
        refine ⟨_, rfl, rfl, true, ?_, iteT ?_⟩
        · show V.bl (!decide (V.str z = V.str (Str.ofString ""))) = V.bl true
          rw [decide_eq_false nz0]; rfl
        refine ⟨_, rfl, z, rfl, hz, fun p H1 hp1 h1 s1 => ?_⟩
        cases hrd : readS z with
        | some ns =>
          obtain ⟨_, e2, e3⟩ := reads_form hrd hp
          rw [e2] at h1
          rw [hrd] at k
          exact ⟨_, rfl, .inl ⟨ns, ⟨p, rfl, h1, e3⟩, k H1 s1⟩⟩
        | none =>
          obtain ⟨_, e2⟩ := reads_none (K := K) (H := H1) hrd h0
          rw [hrd] at k
          exact ⟨_, rfl, .inr ⟨.inr ⟨p, _, rfl, h1, e2, ok_ints _⟩, k H1 s1⟩⟩
theorem sc_read : FnScope ["text"] ["text"] (defScope st_read) := ⟨rfl, rfl, rfl, by decide +kernel, rfl, by decide +kernel, by decide +kernel⟩
theorem ok_read (D : DefAt K mg "read" st_read) (T : Txt K mg CS CF CN CT CP) (G_WITHOUT_LAYS : ∃ u, mg "WITHOUT_LAYS" = some u ∧ RelV (.str point) u) (C_writes_form : Callee P w K mg base 4 "writes_form" ["text"] spWrites) (C_lays_in : Callee P w K mg base 4 "lays_in" ["text"] spLaysIn) : Callee P w K mg base 5 "read" ["text"] (spRead K CT) := by
  obtain ⟨u2, G_WITHOUT_LAYS⟩ := G_WITHOUT_LAYS
  refine callee_of D sc_read (fun vs H Q E h => ?_) (fun _ _ _ _ _ _ us hl => match us, hl with | [_], _ => by kernel_rfl) (fun f cdv A outer s H vs Q E hr h => ?_)
  · obtain ⟨x, rfl, _⟩ := h
    rfl
  · obtain ⟨x, rfl, h⟩ := h
    refine ⟨_, (qss (qs_if (qt_w (qw_or (qt_not (qt_val (qe_isiT (K := K) T.isi T.str PyProof.Rows.Boot.«str» (qv 0)))) (qw_or1 (qt_not (qt_val (qe_def C_writes_form hr qpX (qa (qv 0) qa_nil))))))) (qss_one (qs_raise PySem.F.excBase_ValueError T.mT T.xT)) qss_nil)
      (qss (qs_if (qt_cmp q_eq (qv 0) (qe_gl G_WITHOUT_LAYS)) (qss_one (qs_ret (qe_lst qa_nil))) qss_nil)
      (qss_one (qs_ret (qe_def C_lays_in hr qpX (qa (qv 0) qa_nil)))))), ?_⟩
    rcases h with ⟨z, ns, rfl, hrd, hz, k⟩ | ⟨⟨z, rfl, hrd, hz⟩ | ⟨t, ht, hk⟩, k⟩
    · refine ⟨_, rfl, rfl, _, true, .inl (.str _), kitT (by decide +kernel), true, rfl, iteF ⟨_, rfl, z, rfl, hz, fun H1 s1 => ?_⟩⟩
      rw [hrd]
      refine ⟨true, rfl, iteF ⟨_, rfl, rfl, _, rfl, ite2 (fun h1 => ?_) fun h1 => ?_⟩⟩
      · have ez : z = point := by
          have := of_decide_eq_true h1
          injection this
        subst ez
        have en : ns = [] := by
          have : readS point = some [] := by decide
          rw [hrd] at this
          exact Option.some.inj this
        subst en
        exact ⟨Nat.zero_le _, fun p hp => k p _ (s1.free hp) upd_same (s1.trans (same_new hp))⟩
      · have hp : z.cps.toList ≠ [46] := fun e => h1 (decide_eq_true (by rw [str_ext (z := z) (y := point) e]))
        obtain ⟨_, e2, _⟩ := reads_form hrd hp
        refine ⟨_, rfl, z, rfl, hz, fun p H2 hp2 h2 s2 => ?_⟩
        rw [e2] at h2
        exact k p H2 (s1.free hp2) h2 (s1.trans s2)
    · refine ⟨_, rfl, rfl, _, true, .inl (.str _), kitT (by decide +kernel), true, rfl, iteF ⟨_, rfl, z, rfl, hz, fun H1 s1 => ?_⟩⟩
      rw [hrd]
      exact ⟨false, rfl, iteT (k H1 s1)⟩
    · exact ⟨_, rfl, rfl, _, false, .inl ht, hk, false, rfl, iteT (iteT (k H fun _ _ e => e))⟩
theorem sc__law_cell_at : FnScope ["_law_script", "_law_k"] ["_law_script", "_law_k"] (defScope st__law_cell_at) := ⟨rfl, rfl, rfl, by decide +kernel, rfl, by decide +kernel, by decide +kernel⟩
theorem ok__law_cell_at (D : DefAt K mg "_law_cell_at" st__law_cell_at) (T : Txt K mg CS CF CN CT CP) : Callee P w K mg base 1 "_law_cell_at" ["_law_script", "_law_k"] (spCell K) := by
  refine callee_nox D sc__law_cell_at (fun vs H Q E h => ?_) (fun _ _ _ _ _ _ us hl => match us, hl with | [_, _], _ => by kernel_rfl) (fun f cdv A outer s H vs Q E hr h => ?_)
  · obtain ⟨a, ns, i, rfl, _⟩ := h
    rfl
  · obtain ⟨a, ns, i, rfl, hS, h0, hl, k⟩ := h
    refine ⟨_, (qss (qs_if (qt_cmp q_lt (qv 1) (qe_callB q_len T.len PyProof.Rows.Boot.«len» (qa (qv 0) qa_nil))) (qss_one (qs_ret (qe_ix q_ixl (qv 0) (qv 1)))) qss_nil)
      (qss_one (qs_ret qe_int))), ?_⟩
    refine ⟨_, rfl, _, rfl, a, _, rfl, .inl hS, _, _, rfl, rfl, _, rfl, ite2 (fun h1 => ?_) fun _ => k _⟩
    have h1 := of_decide_eq_true h1
    obtain ⟨v, hv, hm⟩ := atI_some (ns.map V.int) h0 h1
    obtain ⟨z, _, rfl⟩ := List.mem_map.mp hm
    exact ⟨_, rfl, _, rfl, a, _, _, _, rfl, rfl, hS, hv, k z⟩
theorem sc__law_whole : FnScope ["_law_found"] ["_law_found"] (defScope st__law_whole) := ⟨rfl, rfl, rfl, by decide +kernel, rfl, by decide +kernel, by decide +kernel⟩
theorem ok__law_whole (D : DefAt K mg "_law_whole" st__law_whole) (T : Txt K mg CS CF CN CT CP) : Callee P w K mg base 1 "_law_whole" ["_law_found"] (spWhole K) := by
  refine callee_nox D sc__law_whole (fun vs H Q E h => ?_) (fun _ _ _ _ _ _ us hl => match us, hl with | [_], _ => by kernel_rfl) (fun f cdv A outer s H vs Q E hr h => ?_)
  · obtain ⟨x, b, rfl, _⟩ := h
    rfl
  · obtain ⟨x, b, rfl, hw, k⟩ := h
    have nd := sc__law_whole.nd
    refine ⟨_, (qss_one (qs_ret (qe_and (qe_isiT (K := K) T.isi T.int PyProof.Rows.Boot.«int» (qv 0)) (qe_one (qe_not (qe_isiT (K := K) T.isi T.bool PyProof.Rows.Boot.«bool» (qv 0))))))), ?_⟩
    rcases hw with ⟨i, rfl, rfl⟩ | ⟨⟨c, rfl⟩ | ⟨t, ty, hk⟩, rfl⟩
    · exact ⟨_, rfl, rfl, _, true, .inl (.int i), kitT (by decide +kernel), true, rfl, iteT ⟨_, rfl, rfl, _, false, .inl (.int i), kitT (by decide +kernel), false, rfl, k⟩⟩
    · exact ⟨_, rfl, rfl, _, true, .inl (.bl c), kitT (by decide +kernel), true, rfl, iteT ⟨_, rfl, rfl, _, true, .inl (.bl c), kitT (by decide +kernel), true, rfl, k⟩⟩
    · exact ⟨_, rfl, rfl, _, false, .inl ty, kitT hk, false, rfl, iteF k⟩
theorem sc__law_form_by : FnScope ["_law_way", "_law_cells", "_law_lays", "_law_cell", "_law_left", "_law_k"] ["_law_way", "_law_cells"] (defScope st__law_form_by) := ⟨rfl, rfl, rfl, by decide +kernel, rfl, by decide +kernel, by decide +kernel⟩
theorem ok__law_form_by (D : DefAt K mg "_law_form_by" st__law_form_by) (T : Txt K mg CS CF CN CT CP) : Callee P w K mg base 1 "_law_form_by" ["_law_way", "_law_cells"] (spFormBy K 9) := by
  refine callee_nox D sc__law_form_by (fun vs H Q E h => ?_) (fun _ _ _ _ _ _ us hl => match us, hl with | [_, _], _ => by kernel_rfl) (fun f cdv A outer s H vs Q E hr h => ?_)
  · obtain ⟨way, a, cells, rfl, _⟩ := h
    rfl
  · obtain ⟨way, a, cells, rfl, hS, hlen, k⟩ := h
    have nd := sc__law_form_by.nd
    refine ⟨_, (qss (qs_set (i := 2) nd (qe_lst qa_nil))
      (qss (qs_for (qi_list (qv 1)) (qg_name (i := 3) nd) (qss (qs_set (i := 4) nd (qe_op q_mod (qe_op q_add (qe_op q_mul (qv 3) qe_int) qe_int) qe_int))
        (qss (qs_if (qt_cmp q_eq (qe_op q_mod (qv 0) qe_int) qe_int) (qss_one (qs_set (i := 4) nd (qe_ix q_ixl (qe_lst (qa qe_int (qa qe_int (qa qe_int qa_nil)))) (qe_op q_mod (qv 3) qe_int)))) qss_nil)
        (qss_one (qs_for (qi_range1 T.range qe_int) (qg_name (i := 5) nd) (qss (qs_expr (qe_bm1 PySem.F.plainAttrs_list PySem.F.slot_list_append PySem.F.type_list_append q_append (qv 2) (qe_op q_sub (qe_op q_mod (qv 4) qe_int) qe_int)))
          (qss_one (qs_set (i := 4) nd (qe_op q_fdiv (qv 4) qe_int)))))))))
      (qss (qs_if (qt_cmp q_eq (qe_op q_mod (qv 0) qe_int) qe_int) (qss_one (qs_set (i := 2) nd (qe_slice q_sll (qv 2) qo_none (qo_some (qe_op q_mod (qe_op q_fdiv (qv 0) qe_int) qe_int))))) qss_nil)
      (qss (qs_while (qt_w (qw_and (qt_cmp q_gt (qe_callB q_len T.len PyProof.Rows.Boot.«len» (qa (qv 2) qa_nil)) qe_int) (qw_and1 (qt_cmp q_eq (qe_ix q_ixl (qv 2) (qe_un q_neg qe_int)) qe_int)))) (qss_one (qs_expr (qe_bm0 PySem.F.plainAttrs_list PySem.F.slot_list_pop PySem.F.type_list_pop q_pop (qv 2)))))
      (qss_one (qs_ret (qv 2))))))), ?_⟩
    refine ⟨Nat.zero_le _, fun p hp => ?_⟩
    have s1 : Same H (upd H p (.lst [])) := same_new hp
    refine ⟨_, rfl, a, rfl, ⟨_, s1.seq hS⟩, for_list (K := K) (a := a) (xs := cells.map V.int) (fun i σ H2 => ∃ (lays : List Int) (v3 v4 v5 : Option V), σ = [some (.int way), some (.ref a), some (.ref p), v3, v4, v5] ∧ H2 p = some (.lst (lays.map V.int)) ∧ Same H H2 ∧ (∀ i ∈ lays, -1 ≤ i ∧ i ≤ 1) ∧ lays.length = 9 * i)
      ⟨[], none, none, none, rfl, upd_same, s1, (fun _ h => nomatch h), rfl⟩ (fun i σ H2 _ ⟨_, _, _, _, _, _, s2, _⟩ => s2.seq hS) ?_ ?_⟩
    · rintro i y σ H2 hi ⟨lays, v3, v4, v5, rfl, h2, s2, l2, n2⟩
      have hi63 : i < 63 := by
        have := (List.getElem?_eq_some_iff.mp hi).1
        rw [List.length_map] at this; omega
      obtain ⟨c, _, rfl⟩ := at_int hi
      refine ⟨_, rfl, _, _, rfl, rfl, .inr ⟨by decide, by decide⟩, _, _, rfl, rfl, _, _, rfl, rfl, (by decide : (0 : Int) < 19683), ?_⟩
      refine ⟨_, rfl, _, _, rfl, rfl, (by decide : (0 : Int) < 3), rfl, _, rfl, ite2 (fun _ => ?_) fun _ => ?_⟩
      · refine ⟨(by decide : 3 ≤ sizeLine), fun q hq => ?_⟩
        obtain ⟨v, hv, hm⟩ := atI_some [V.int 9841, V.int 0, V.int 19682] (i := c % 3) (by omega) (by simp; omega)
        obtain ⟨z, rfl⟩ : ∃ z, v = V.int z := by simp at hm; rcases hm with rfl | rfl | rfl <;> exact ⟨_, rfl⟩
        refine ⟨_, rfl, _, _, rfl, rfl, (by decide : (0 : Int) < 3), q, _, _, _, rfl, rfl, SqL.of upd_same, hv, ?_⟩
        have h3 : upd H2 q (.lst [V.int 9841, V.int 0, V.int 19682]) p = some (.lst (lays.map V.int)) := by rw [upd_ne (ne_of_none h2 hq)]; exact h2
        have s3 : Same H (upd H2 q (.lst [V.int 9841, V.int 0, V.int 19682])) := s2.trans (same_new hq)
        refine ⟨9, rfl, by decide, by decide, for_range (n := 9) (fun j σ H3 => ∃ (ls : List Int) (l : Int) (v5 : Option V), σ = [some (.int way), some (.ref a), some (.ref p), some (.int c), some (.int l), v5] ∧ H3 p = some (.lst (ls.map V.int)) ∧ Same H H3 ∧ (∀ i ∈ ls, -1 ≤ i ∧ i ≤ 1) ∧ ls.length = 9 * i + j)
          ⟨lays, _, _, rfl, h3, s3, l2, n2⟩ ?_ ?_⟩
        · rintro j σ H4 hj ⟨ls, l, v, rfl, h4, s4, l4, n4⟩
          refine ⟨_, rfl, .inl ⟨rfl, _, SqL.of h4⟩, _, rfl, _, _, rfl, rfl, (by decide : (0 : Int) < 3), _, _, rfl, rfl, p, _, _, rfl, rfl, h4, size63 (by rw [List.length_map]; omega), ?_⟩
          refine ⟨_, rfl, _, _, rfl, rfl, ⟨by decide, by decide⟩, ls ++ [l % 3 - 1], _, _, rfl, ?_, same_upd s4 hp, ?_, by simp; omega⟩
          · rw [upd_same, List.map_append]; rfl
          · intro i hi
            rcases List.mem_append.mp hi with hi | hi
            · exact l4 i hi
            · simp at hi; omega
        · rintro σ H4 ⟨ls, l, v, rfl, h4, s4, l4, n4⟩
          exact ⟨ls, _, _, _, rfl, h4, s4, l4, by omega⟩
      · refine ⟨9, rfl, by decide, by decide, for_range (n := 9) (fun j σ H3 => ∃ (ls : List Int) (l : Int) (v5 : Option V), σ = [some (.int way), some (.ref a), some (.ref p), some (.int c), some (.int l), v5] ∧ H3 p = some (.lst (ls.map V.int)) ∧ Same H H3 ∧ (∀ i ∈ ls, -1 ≤ i ∧ i ≤ 1) ∧ ls.length = 9 * i + j)
          ⟨lays, _, _, rfl, h2, s2, l2, n2⟩ ?_ ?_⟩
        · rintro j σ H4 hj ⟨ls, l, v, rfl, h4, s4, l4, n4⟩
          refine ⟨_, rfl, .inl ⟨rfl, _, SqL.of h4⟩, _, rfl, _, _, rfl, rfl, (by decide : (0 : Int) < 3), _, _, rfl, rfl, p, _, _, rfl, rfl, h4, size63 (by rw [List.length_map]; omega), ?_⟩
          refine ⟨_, rfl, _, _, rfl, rfl, ⟨by decide, by decide⟩, ls ++ [l % 3 - 1], _, _, rfl, ?_, same_upd s4 hp, ?_, by simp; omega⟩
          · rw [upd_same, List.map_append]; rfl
          · intro i hi
            rcases List.mem_append.mp hi with hi | hi
            · exact l4 i hi
            · simp at hi; omega
        · rintro σ H4 ⟨ls, l, v, rfl, h4, s4, l4, n4⟩
          exact ⟨ls, _, _, _, rfl, h4, s4, l4, by omega⟩
    · rintro σ H2 ⟨lays, v3, v4, v5, rfl, h2, s2, l2, n2⟩
      rw [List.length_map] at n2
      have n3 : lays.length ≤ 9 * 63 := by omega
      refine ⟨_, rfl, _, _, rfl, rfl, (by decide : (0 : Int) < 6), rfl, _, rfl, ite2 (fun _ => ?_) fun _ => ?_⟩
      · refine ⟨_, rfl, _, rfl, _, _, rfl, rfl, ⟨by decide, by decide⟩, _, _, rfl, rfl, (by decide : (0 : Int) < 12), _, rfl, p, _, rfl, SqL.of h2, fun r hr2 => ?_⟩
        obtain ⟨ls, e, hsub, hle⟩ := cut_ints lays none (some (way / 6 % 12))
        rw [e]
        have hr0 : H r = none := s2.free hr2
        have s3 : Same H (upd H2 r (.lst (ls.map V.int))) := s2.trans (same_new hr2)
        have h3 : upd H2 r (.lst (ls.map V.int)) r = some (.lst (ls.map V.int)) := upd_same
        refine ⟨fun m σ H3 => ∃ lays : List Int, m = lays.length ∧ σ = [some (.int way), some (.ref a), some (.ref r), v3, v4, v5] ∧ H3 r = some (.lst (lays.map V.int)) ∧ Same H H3 ∧ (∀ i ∈ lays, -1 ≤ i ∧ i ≤ 1) ∧ lays.length ≤ 9 * 63, ⟨_, ls, rfl, rfl, h3, s3, fun i hi => l2 i (hsub i hi), by omega⟩, ?_⟩
        rintro m σ H3 ⟨ls, rfl, rfl, h3, s3, l3, n3⟩
        refine ⟨_, rfl, r, _, rfl, .inl (SqL.of h3), _, _, rfl, rfl, _, rfl, ?_⟩
        rcases List.eq_nil_or_concat ls with rfl | ⟨q, z, rfl⟩
        · exact iteF (iteF ⟨_, rfl, k r [] H3 hr0 h3 s3 ⟨(fun _ h => nomatch h), (fun h => nomatch h)⟩ n3⟩)
        · rw [List.concat_eq_append] at *
          have pos : (0 : Int) < (((q ++ [z]).map V.int).length : Nat) := by simp
          rw [decide_eq_true pos]
          refine iteT ⟨_, rfl, 1, rfl, r, _, -1, .int z, rfl, rfl, SqL.of h3, by rw [List.map_append]; exact atI_last _ _, rfl, _, rfl, ?_⟩
          refine ite2 (fun h1 => ?_) fun h1 => ?_
          · refine ⟨fun σ' H' => σ' = [some (.int way), some (.ref a), some (.ref r), v3, v4, v5] ∧ H' = upd H3 r (.lst (q.map V.int)), ?_, ?_⟩
            · rintro σ' H' ⟨rfl, rfl⟩
              exact ⟨q.length, by simp, q, rfl, rfl, upd_same, same_upd s3 hr0, fun i hi => l3 i (by simp [hi]), by simp at n3; omega⟩
            · refine ⟨_, rfl, .inl ⟨rfl, _, SqL.of h3⟩, r, _, .int z, rfl, rfl, h3, by simp, rfl, ?_⟩
              simp
          · have nz : z ≠ 0 := fun e => h1 (by rw [e]; rfl)
            exact ⟨_, rfl, k r _ H3 hr0 h3 s3 ⟨l3, by simpa using nz⟩ n3⟩
      · have h3 := h2
        have s3 := s2
        refine ⟨fun m σ H3 => ∃ lays : List Int, m = lays.length ∧ σ = [some (.int way), some (.ref a), some (.ref p), v3, v4, v5] ∧ H3 p = some (.lst (lays.map V.int)) ∧ Same H H3 ∧ (∀ i ∈ lays, -1 ≤ i ∧ i ≤ 1) ∧ lays.length ≤ 9 * 63, ⟨_, lays, rfl, rfl, h3, s3, l2, n3⟩, ?_⟩
        rintro m σ H3 ⟨ls, rfl, rfl, h3, s3, l3, n3⟩
        refine ⟨_, rfl, p, _, rfl, .inl (SqL.of h3), _, _, rfl, rfl, _, rfl, ?_⟩
        rcases List.eq_nil_or_concat ls with rfl | ⟨q, z, rfl⟩
        · exact iteF (iteF ⟨_, rfl, k p [] H3 hp h3 s3 ⟨(fun _ h => nomatch h), (fun h => nomatch h)⟩ n3⟩)
        · rw [List.concat_eq_append] at *
          have pos : (0 : Int) < (((q ++ [z]).map V.int).length : Nat) := by simp
          rw [decide_eq_true pos]
          refine iteT ⟨_, rfl, 1, rfl, p, _, -1, .int z, rfl, rfl, SqL.of h3, by rw [List.map_append]; exact atI_last _ _, rfl, _, rfl, ?_⟩
          refine ite2 (fun h1 => ?_) fun h1 => ?_
          · refine ⟨fun σ' H' => σ' = [some (.int way), some (.ref a), some (.ref p), v3, v4, v5] ∧ H' = upd H3 p (.lst (q.map V.int)), ?_, ?_⟩
            · rintro σ' H' ⟨rfl, rfl⟩
              exact ⟨q.length, by simp, q, rfl, rfl, upd_same, same_upd s3 hp, fun i hi => l3 i (by simp [hi]), by simp at n3; omega⟩
            · refine ⟨_, rfl, .inl ⟨rfl, _, SqL.of h3⟩, p, _, .int z, rfl, rfl, h3, by simp, rfl, ?_⟩
              simp
          · have nz : z ≠ 0 := fun e => h1 (by rw [e]; rfl)
            exact ⟨_, rfl, k p _ H3 hp h3 s3 ⟨l3, by simpa using nz⟩ n3⟩
theorem sc__law_bad_by : FnScope ["_law_lays", "_law_cell", "_law_way", "_law_far", "_law_at"] ["_law_lays", "_law_cell"] (defScope st__law_bad_by) := ⟨rfl, rfl, rfl, by decide +kernel, rfl, by decide +kernel, by decide +kernel⟩
theorem ok__law_bad_by (D : DefAt K mg "_law_bad_by" st__law_bad_by) (T : Txt K mg CS CF CN CT CP) : Callee P w K mg base 1 "_law_bad_by" ["_law_lays", "_law_cell"] (spBadBy K) := by
  refine callee_nox D sc__law_bad_by (fun vs H Q E h => ?_) (fun _ _ _ _ _ _ us hl => match us, hl with | [_, _], _ => by kernel_rfl) (fun f cdv A outer s H vs Q E hr h => ?_)
  · obtain ⟨a, lays, cell, rfl, _⟩ := h
    rfl
  · obtain ⟨a, lays, cell, rfl, ha, hf, hlen, k⟩ := h
    have nd := sc__law_bad_by.nd
    refine ⟨_, (qss (qs_set (i := 2) nd (qe_op q_mod (qv 1) qe_int))
      (qss (qs_set (i := 3) nd (qe_op q_mod (qe_op q_fdiv (qv 1) qe_int) (qe_op q_pow qe_int qe_int)))
      (qss (qs_set (i := 4) nd (qe_op q_mod (qv 3) (qe_op q_add (qe_callB q_len T.len PyProof.Rows.Boot.«len» (qa (qv 0) qa_nil)) qe_int)))
      (qss (qs_if (qt_cmp q_eq (qv 2) qe_int) (qss_one (qs_ret (qe_op q_cat (qv 0) (qe_lst (qa qe_int qa_nil))))) qss_nil)
      (qss (qs_if (qt_cmp q_lt (qv 2) qe_int) (qss_one (qs_ret (qe_op q_cat (qe_op q_cat (qe_slice q_sll (qv 0) qo_none (qo_some (qv 4))) (qe_lst (qa (qe_ix q_ixl (qe_lst (qa (qe_op q_add qe_int (qv 3)) (qa (qe_op q_sub (qe_un q_neg qe_int) (qv 3)) (qa qe_bl (qa qe_non (qa qe_str qa_nil)))))) (qe_op q_sub (qv 2) qe_int)) qa_nil))) (qe_slice q_sll (qv 0) (qo_some (qv 4)) qo_none)))) qss_nil)
      (qss (qs_if (qt_cmp q_eq (qv 2) qe_int) (qss_one (qs_ret (qe_callTy q_tuple T.tuple PyProof.Rows.Boot.«tuple» (qa (qv 0) qa_nil)))) qss_nil)
      (qss_one (qs_ret (qe_ix q_ixl (qe_lst (qa qe_non (qa qe_int (qa qe_int (qa qe_str (qa qe_str (qa (qe_tup qa_nil) (qa qe_bl (qa qe_dnew qa_nil))))))))) (qe_op q_mod (qv 3) qe_int)))))))))), ?_⟩
    refine ⟨_, rfl, _, _, rfl, rfl, (by decide : (0 : Int) < 8), ?_⟩
    refine ⟨_, rfl, _, _, rfl, rfl, ⟨by decide, by decide⟩, _, _, rfl, rfl, ⟨by decide, by decide, by decide⟩, _, _, rfl, rfl, (show (0 : Int) < 10 ^ Int.toNat 60 by decide), ?_⟩
    refine ⟨_, rfl, _, rfl, a, _, rfl, .inl (SqL.of ha), _, _, rfl, rfl, _, _, rfl, rfl, (by show (0 : Int) < _ + 1; omega), ?_⟩
    have f0 : 0 ≤ cell / 8 % 10 ^ Int.toNat 60 := Int.emod_nonneg _ (by decide)
    have w0 : 0 ≤ cell % 8 := by omega
    have w8 : cell % 8 < 8 := by omega
    -- the last step of an insertion
    have fin : ∀ {at_ : Int} (H2 : Hp) (p : Addr) (y : V), Same H H2 → H2 p = some (.lst ((cutV (lays.map V.int) none (some at_) ++ [y]) ++ cutV (lays.map V.int) (some at_) none)) → LayV K H2 y false → okV y = true → Q (.ref p) H2 := by
      intro at_ H2 p y hs hp hy hk
      obtain ⟨m1, e1, b1, _⟩ := cut_ints lays none (some at_)
      obtain ⟨m2, e2, b2, _⟩ := cut_ints lays (some at_) none
      rw [e1, e2] at hp
      refine k _ _ hs (.inr ⟨p, _, rfl, hp, .inl ⟨m1, y, m2.map V.int, by simp, fun i hi => hf.lays i (b1 i hi), hy⟩, ?_⟩)
      rw [List.all_eq_true]
      intro v hv
      simp only [List.mem_append, List.mem_cons, List.mem_map, List.not_mem_nil, or_false] at hv
      rcases hv with (⟨_, _, rfl⟩ | rfl) | ⟨_, _, rfl⟩
      · rfl
      · exact hk
      · rfl
    have cl : ∀ lo hi, (cutV (lays.map V.int) lo hi).length ≤ 10000 := fun lo hi => Nat.le_trans (cutV_length _ _ _) (by rw [List.length_map]; exact hlen)
    refine ⟨_, rfl, rfl, _, rfl, ite2 (fun _ => ?_) fun n0 => ?_⟩
    · refine ⟨_, rfl, (by decide : 1 ≤ sizeLine), fun p1 h1 => ⟨a, p1, _, _, rfl, rfl, upd_keep ha h1, upd_same, Nat.le_of_lt (size63 (by simp; omega)), fun p2 h2 => ?_⟩⟩
      refine k _ _ ((same_new h1).trans (same_new h2)) (.inr ⟨p2, _, rfl, upd_same, .inr ⟨lays ++ [0], by simp, ?_, by simp⟩, by simp [okV]⟩)
      intro i hi
      rcases List.mem_append.mp hi with hi | hi
      · exact hf.lays i hi
      · simp at hi; omega
    have n0 : cell % 8 ≠ 0 := fun e => n0 (dec_int_iff.mpr e)
    refine ⟨_, rfl, _, _, rfl, rfl, _, rfl, ite2 (fun n1 => ?_) fun n1 => ?_⟩
    · have n1 : cell % 8 < 6 := of_decide_eq_true n1
      refine ⟨_, rfl, _, rfl, _, rfl, a, _, rfl, SqL.of ha, fun p1 h1 => ?_⟩
      refine ⟨_, rfl, _, _, rfl, rfl, 2, rfl, _, rfl, _, _, rfl, rfl, (by decide : 5 ≤ sizeLine), fun q3 g3 => ?_⟩
      obtain ⟨v, hv, hm⟩ := atI_some [V.int (2 + cell / 8 % 10 ^ Int.toNat 60), V.int (-2 - cell / 8 % 10 ^ Int.toNat 60), V.bl true, V.non, V.str "1"] (i := cell % 8 - 1) (by omega) (by simp; omega)
      refine ⟨_, rfl, _, _, rfl, rfl, q3, _, _, v, rfl, rfl, SqL.of upd_same, hv, ?_⟩
      refine ⟨(by decide : 1 ≤ sizeLine), fun p2 h2 => ⟨p1, p2, _, _, rfl, rfl, upd_keep (upd_keep upd_same g3) h2, upd_same, Nat.le_of_lt (size63 (by simp only [List.length_cons, List.length_nil]; exact Nat.le_trans (Nat.add_le_add (cl _ _) (Nat.le_refl 1)) (by decide))), fun p3 h3 => ?_⟩⟩
      refine ⟨_, rfl, _, rfl, _, rfl, a, _, rfl, SqL.of (upd_keep (upd_keep (upd_keep (upd_keep ha h1) g3) h2) h3), fun p4 h4 => ⟨p3, p4, _, _, rfl, rfl, upd_keep upd_same h4, upd_same, Nat.le_of_lt (size63 (by simp only [List.length_append, List.length_cons, List.length_nil]; exact Nat.le_trans (Nat.add_le_add (Nat.add_le_add (cl _ _) (Nat.le_refl 1)) (cl _ _)) (by decide))), fun p5 h5 => ?_⟩⟩
      refine fin _ _ v (((same_new h1).trans (same_new g3)).trans ((same_new h2).trans (((same_new h3)).trans ((same_new h4).trans (same_new h5))))) upd_same ?_ ?_
      · simp only [List.mem_cons, List.not_mem_nil, or_false] at hm
        rcases hm with rfl | rfl | rfl | rfl | rfl
        · exact .inl ⟨_, rfl, (decide_eq_false (by omega)).symm⟩
        · exact .inl ⟨_, rfl, (decide_eq_false (by omega)).symm⟩
        · exact .inr ⟨.inl ⟨_, rfl⟩, rfl⟩
        · exact .inr ⟨.inr ⟨_, .non, by decide +kernel⟩, rfl⟩
        · exact .inr ⟨.inr ⟨_, .str _, by decide +kernel⟩, rfl⟩
      · simp only [List.mem_cons, List.not_mem_nil, or_false] at hm
        rcases hm with rfl | rfl | rfl | rfl | rfl <;> rfl
    refine ⟨_, rfl, rfl, _, rfl, ite2 (fun _ => ?_) fun n4 => ?_⟩
    · exact ⟨_, rfl, a, _, rfl, .inl ⟨SqL.of ha, fun l hl => k _ _ (same_new hl) (.inl ⟨_, .tup upd_same, by decide +kernel⟩)⟩⟩
    · refine ⟨(by decide : 0 ≤ sizeLine), fun q1 g1 q2 g2 => ⟨(by decide : 8 ≤ sizeLine), fun q3 g3 => ?_⟩⟩
      obtain ⟨v, hv, hm⟩ := atI_some [V.non, V.int 0, V.int 1, V.str "", V.str ">", V.ref q1, V.bl true, V.ref q2] (i := cell / 8 % 10 ^ Int.toNat 60 % 8) (by omega) (by simp; omega)
      refine ⟨_, rfl, _, _, rfl, rfl, (by decide : (0 : Int) < 8), q3, _, _, v, rfl, rfl, SqL.of upd_same, hv, ?_⟩
      refine k _ _ (((same_new g1).trans (same_new g2)).trans (same_new g3)) (.inl ?_)
      simp only [List.mem_cons, List.not_mem_nil, or_false] at hm
      rcases hm with rfl | rfl | rfl | rfl | rfl | rfl | rfl | rfl
      · exact ⟨_, .non, by decide +kernel⟩
      · exact ⟨_, .int _, by decide +kernel⟩
      · exact ⟨_, .int _, by decide +kernel⟩
      · exact ⟨_, .str _, by decide +kernel⟩
      · exact ⟨_, .str _, by decide +kernel⟩
      · exact ⟨_, .tup (upd_keep (upd_keep upd_same g2) g3), by decide +kernel⟩
      · exact ⟨_, .bl _, by decide +kernel⟩
      · exact ⟨_, .dK (upd_keep upd_same g3), by decide +kernel⟩
theorem sc__law_sign_by : FnScope ["_law_cell", "_law_some"] ["_law_cell"] (defScope st__law_sign_by) := ⟨rfl, rfl, rfl, by decide +kernel, rfl, by decide +kernel, by decide +kernel⟩
theorem ok__law_sign_by (D : DefAt K mg "_law_sign_by" st__law_sign_by) (T : Txt K mg CS CF CN CT CP) : Callee P w K mg base 1 "_law_sign_by" ["_law_cell"] spSignBy := by
  refine callee_nox D sc__law_sign_by (fun vs H Q E h => ?_) (fun _ _ _ _ _ _ us hl => match us, hl with | [_], _ => by kernel_rfl) (fun f cdv A outer s H vs Q E hr h => ?_)
  · obtain ⟨cell, rfl, _⟩ := h
    rfl
  · obtain ⟨cell, rfl, k⟩ := h
    have nd := sc__law_sign_by.nd
    refine ⟨_, (qss (qs_set (i := 1) nd qe_str)
      (qss (qs_set (i := 1) nd (qe_op q_cats (qv 1) qe_str))
      (qss (qs_if (qt_cmp q_eq (qe_op q_mod (qv 0) qe_int) qe_int) (qss_one (qs_ret (qe_ix q_ixs qe_str (qe_op q_mod (qe_op q_fdiv (qv 0) qe_int) qe_int)))) qss_nil)
      (qss_one (qs_ret (qe_ix q_ixs (qv 1) (qe_op q_mod (qe_op q_fdiv (qv 0) qe_int) qe_int))))))), ?_⟩
    refine ⟨_, rfl, _, _, rfl, rfl, (by decide +kernel), ?_⟩
    refine ⟨_, rfl, _, _, rfl, rfl, (by decide : (0 : Int) < 2), rfl, _, rfl, ite2 (fun _ => ?_) fun _ => ?_⟩
    · obtain ⟨c, hc, _⟩ := atI_some signs.cps.toList (i := cell / 2 % 3) (by omega) (by show cell / 2 % 3 < ((3 : Nat) : Int); omega)
      exact ⟨_, rfl, _, _, rfl, rfl, ⟨by decide, by decide⟩, _, _, rfl, rfl, (by decide : (0 : Int) < 3), signs, _, c, rfl, rfl, (by decide), hc, k _ rfl⟩
    · obtain ⟨c, hc, _⟩ := atI_some (Str.ofString " !\"#$&'()*+,-./0123456789:;<=>?@ABCDEFGHIJKLMNOPQRSTUVWXYZ[\\]^_`" ++ Str.ofString "abcdefghijklmnopqrstuvwxyz{|}~").cps.toList (i := cell / 2 % 94) (by omega) (by
        have e : (Str.ofString " !\"#$&'()*+,-./0123456789:;<=>?@ABCDEFGHIJKLMNOPQRSTUVWXYZ[\\]^_`" ++ Str.ofString "abcdefghijklmnopqrstuvwxyz{|}~").cps.toList.length = 94 := by decide +kernel
        rw [e]; omega)
      exact ⟨_, rfl, _, rfl, _, _, rfl, rfl, ⟨by decide, by decide⟩, _, _, rfl, rfl, (by decide : (0 : Int) < 94), _, _, c, rfl, rfl, (by decide +kernel), hc, k _ rfl⟩
theorem sc__law_line_by : FnScope ["_law_way", "_law_line", "_law_cell", "_law_sign", "_law_at", "_law_made", "_law_left", "_law_k"] ["_law_way", "_law_line", "_law_cell", "_law_sign"] (defScope st__law_line_by) := ⟨rfl, rfl, rfl, by decide +kernel, rfl, by decide +kernel, by decide +kernel⟩
theorem ok__law_line_by (D : DefAt K mg "_law_line_by" st__law_line_by) (T : Txt K mg CS CF CN CT CP) (C__law_sign_by : Callee P w K mg base 1 "_law_sign_by" ["_law_cell"] spSignBy) : Callee P w K mg base 2 "_law_line_by" ["_law_way", "_law_line", "_law_cell", "_law_sign"] spLineBy := by
  refine callee_nox D sc__law_line_by (fun vs H Q E h => ?_) (fun _ _ _ _ _ _ us hl => match us, hl with | [_, _, _, _], _ => by kernel_rfl) (fun f cdv A outer s H vs Q E hr h => ?_)
  · obtain ⟨way, cell, line, sg, rfl, _⟩ := h
    rfl
  · obtain ⟨way, cell, line, sg, rfl, hl, hs, k⟩ := h
    have nd := sc__law_line_by.nd
    have hz : line.length ≤ sizeLine := Nat.le_of_lt (size63 (by omega))
    refine ⟨_, (qss (qs_set (i := 4) nd (qe_op q_mod (qv 2) (qe_op q_add (qe_callB q_lens T.len PyProof.Rows.Boot.«len» (qa (qv 1) qa_nil)) qe_int)))
      (qss (qs_if (qt_w (qw_or (qt_cmp q_eq (qv 0) qe_int) (qw_or1 (qt_cmp q_eq (qv 0) qe_int)))) (qss_one (qs_ret (qe_op q_cats (qe_op q_cats (qe_slice q_sls (qv 1) qo_none (qo_some (qv 4))) (qv 3)) (qe_slice q_sls (qv 1) (qo_some (qv 4)) qo_none)))) qss_nil)
      (qss (qs_if (qt_cmp q_eq (qv 0) qe_int) (qss_one (qs_ret (qe_slice q_sls (qv 1) (qo_some (qv 4)) qo_none))) qss_nil)
      (qss (qs_set (i := 5) nd qe_str)
      (qss (qs_set (i := 6) nd (qe_op q_fdiv (qv 2) qe_int))
      (qss (qs_for (qi_range1 T.range (qe_op q_mod (qv 2) qe_int)) (qg_name (i := 7) nd) (qss_one (qs_if (qt_cmp q_eq (qe_op q_mod (qe_op q_fdiv (qv 2) qe_int) qe_int) qe_int) (qss (qs_set (i := 5) nd (qe_op q_cats (qv 5) (qe_ix q_ixs qe_str (qe_op q_mod (qv 6) qe_int))))
          (qss_one (qs_set (i := 6) nd (qe_op q_fdiv (qv 6) qe_int)))) (qss (qs_set (i := 5) nd (qe_op q_cats (qv 5) (qe_def C__law_sign_by hr qpN (qa (qe_op q_mod (qv 6) qe_int) qa_nil))))
          (qss_one (qs_set (i := 6) nd (qe_op q_fdiv (qv 6) qe_int)))))))
      (qss_one (qs_ret (qv 5))))))))), ?_⟩
    refine ⟨_, rfl, _, rfl, line, rfl, hz, _, _, rfl, rfl, _, _, rfl, rfl, (by show (0 : Int) < _ + 1; omega), ?_⟩
    dsimp only
    generalize cell % ((line.length : Int) + 1) = at_
    have c1 := PySem.Txt.slice_le line none (some at_)
    have c2 := PySem.Txt.slice_le line (some at_) none
    have a1 := str_app (PySem.Txt.slice line none (some at_)) sg
    have a2 := str_app (PySem.Txt.slice line none (some at_) ++ sg) (PySem.Txt.slice line (some at_) none)
    refine ⟨_, rfl, rfl, _, rfl, ite2 (fun _ => iteT ?_) fun _ => ⟨_, rfl, rfl, _, rfl, ite2 (fun _ => ?_) fun _ => ?_⟩⟩
    · exact ⟨_, rfl, _, rfl, _, rfl, line, rfl, hz, _, rfl, _, _, rfl, rfl, Nat.le_of_lt (size63 (by omega)), _, rfl, _, rfl, _, rfl, line, rfl, hz, _, _, rfl, rfl, Nat.le_of_lt (size63 (by omega)), k _ (by omega)⟩
    · exact ⟨_, rfl, _, rfl, _, rfl, line, rfl, hz, _, rfl, _, _, rfl, rfl, Nat.le_of_lt (size63 (by omega)), _, rfl, _, rfl, _, rfl, line, rfl, hz, _, _, rfl, rfl, Nat.le_of_lt (size63 (by omega)), k _ (by omega)⟩
    refine ⟨_, rfl, rfl, _, rfl, ite2 (fun _ => ?_) fun _ => ?_⟩
    · exact ⟨_, rfl, _, rfl, _, rfl, line, rfl, hz, k _ (by omega)⟩
    refine ⟨_, rfl, _, _, rfl, rfl, ⟨by decide, by decide⟩, ?_⟩
    refine ⟨_, rfl, _, _, rfl, rfl, (by decide : (0 : Int) < 6), _, rfl, by omega, by omega, for_by (n := (cell % 6).toNat) (fun i σ H2 => H2 = H ∧ ∃ (made : Str) (left : Int) (v : Option V), made.length = i ∧ σ = [some (.int way), some (.str line), some (.int cell), some (.str sg), some (.int at_), some (.str made), some (.int left), v]) ⟨rfl, _, _, none, rfl, rfl⟩ ?_ ?_⟩
    · rintro σ H2 ⟨rfl, made, left, v, hm, rfl⟩
      exact ⟨Nat.le_refl _, _, rfl, k _ (by omega)⟩
    · rintro i σ H2 hi ⟨rfl, made, left, v, hm, rfl⟩
      refine ⟨hi, fun x H3 y => ?_⟩
      obtain ⟨rfl, rfl⟩ := y
      refine ⟨_, rfl, _, _, rfl, rfl, ⟨by decide, by decide⟩, _, _, rfl, rfl, (by decide : (0 : Int) < 2), rfl, _, rfl, ite2 (fun _ => ?_) fun _ => ?_⟩
      · obtain ⟨c, hc, _⟩ := atI_some signs.cps.toList (i := left % 3) (by omega) (by show left % 3 < ((3 : Nat) : Int); omega)
        refine ⟨_, rfl, _, rfl, _, _, rfl, rfl, (by decide : (0 : Int) < 3), signs, _, c, rfl, rfl, (by decide), hc, _, _, rfl, rfl, Nat.le_of_lt (size63 (show made.length + 1 ≤ 100000 by omega)), ?_⟩
        exact ⟨_, rfl, _, _, rfl, rfl, ⟨by decide, by decide⟩, rfl, _, _, _, (by rw [str_app, hm]; rfl), rfl⟩
      · refine ⟨_, rfl, _, rfl, _, _, rfl, rfl, (by decide : (0 : Int) < 188), _, rfl, fun z hz1 => ⟨_, _, rfl, rfl, Nat.le_of_lt (size63 (by omega)), ?_⟩⟩
        exact ⟨_, rfl, _, _, rfl, rfl, ⟨by decide, by decide⟩, rfl, _, _, _, (by rw [str_app, hm, hz1]), rfl⟩
theorem sc__law_due : FnScope ["_law_line", "_law_found", "_law_sign"] ["_law_line"] (defScope st__law_due) := ⟨rfl, rfl, rfl, by decide +kernel, rfl, by decide +kernel, by decide +kernel⟩
theorem ok__law_due (D : DefAt K mg "_law_due" st__law_due) (T : Txt K mg CS CF CN CT CP) : Callee P w K mg base 1 "_law_due" ["_law_line"] (spDue4 K) := by
  refine callee_nox D sc__law_due (fun vs H Q E h => ?_) (fun _ _ _ _ _ _ us hl => match us, hl with | [_], _ => by kernel_rfl) (fun f cdv A outer s H vs Q E hr h => ?_)
  · obtain ⟨x, rfl, _⟩ := h
    rfl
  · obtain ⟨x, rfl, h⟩ := h
    have nd := sc__law_due.nd
    let J0 : L2.St → Hp → Prop := fun σ H2 => H2 = H ∧ ∃ z : Str, σ = [some (.str z), none, none] ∧ x = .str z ∧ z.cps.toList ≠ [] ∧ (z.cps.toList.head? = some 46 → z = point)
    refine ⟨_, (qss_mid J0 (qs_if (qt_w (qw_or (qt_not (qt_val (qe_isiT (K := K) T.isi T.str PyProof.Rows.Boot.«str» (qv 0)))) (qw_or (qt_cmp q_eq (qv 0) qe_str) (qw_or1 (qt_w (qw_and (qt_cmp q_gt (qe_callB q_lens T.len PyProof.Rows.Boot.«len» (qa (qv 0) qa_nil)) qe_int) (qw_and1 (qt_cmp q_eq (qe_ix q_ixs (qv 0) qe_int) qe_str)))))))) (qss_one (qs_ret qe_non)) qss_nil)
      (qss (qs_set (i := 1) nd (qe_lst qa_nil))
      (qss (qs_for (qi_str (qv 0)) (qg_name (i := 2) nd) (qss (qs_if (qt_notin q_notin (qv 2) qe_str) (qss_one (qs_ret qe_non)) qss_nil)
        (qss_one (qs_if (qt_cmp q_eq (qv 2) qe_str) (qss_one (qs_expr (qe_bm2 PySem.F.plainAttrs_list PySem.F.slot_list_insert PySem.F.type_list_insert q_insert0 (qv 1) (qa qe_int (qa (qe_un q_neg qe_int) qa_nil))))) (qss_one (qs_if (qt_cmp q_eq (qv 2) qe_str) (qss_one (qs_expr (qe_bm2 PySem.F.plainAttrs_list PySem.F.slot_list_insert PySem.F.type_list_insert q_insert0 (qv 1) (qa qe_int (qa qe_int qa_nil))))) (qss_one (qs_if (qt_cmp q_ne (qv 0) qe_str) (qss_one (qs_expr (qe_bm2 PySem.F.plainAttrs_list PySem.F.slot_list_insert PySem.F.type_list_insert q_insert0 (qv 1) (qa qe_int (qa qe_int qa_nil))))) qss_nil))))))))
      (qss_one (qs_ret (qv 1)))))), ?_⟩
    refine ⟨?first, ?rest⟩
    case first =>
      rcases h with ⟨z, rfl, hz, kn, ks⟩ | ⟨⟨t, ht, hk⟩, k⟩
      · have zl : z.cps.toList.length = z.length := by simp [Str.length]
        have hzs : z.length ≤ sizeLine := Nat.le_of_lt (size63 (by omega))
        refine ⟨_, rfl, rfl, _, true, .inl (.str _), kitT (by decide +kernel), true, rfl, iteF ?_⟩
        refine ⟨_, rfl, rfl, _, rfl, ite2 (fun h0 => ?_) fun h0 => ?_⟩
        · have ez : z = Str.ofString "" := by have := of_decide_eq_true h0; injection this
          subst ez
          exact iteT (kn (by decide) H fun _ _ e => e)
        have nz0 : z.cps.toList ≠ [] := fun e => h0 (decide_eq_true (by rw [str_ext (z := z) (y := Str.ofString "") e]))
        obtain ⟨c, tl, ec⟩ : ∃ c tl, z.cps.toList = c :: tl := by
          cases q : z.cps.toList with
          | nil => exact absurd q nz0
          | cons c tl => exact ⟨c, tl, rfl⟩
        refine ⟨_, rfl, z, rfl, hzs, _, _, rfl, rfl, _, rfl, ite2 (fun h1 => ?_) fun h1 => ?_⟩
        · have h1 : (1 : Int) < z.length := of_decide_eq_true h1
          refine ⟨_, rfl, z, 0, c, rfl, rfl, hzs, by rw [ec]; exact atI_nat (j := 0) rfl, rfl, _, rfl, ite2 (fun h2 => ?_) fun h2 => ?_⟩
          · have e46 : c = 46 := sign_is (y := Str.ofString ".") (d := 46) rfl h2
            exact kn (reads_point (by omega) (by rw [ec, e46]; rfl)) H fun _ _ e => e
          · have n46 : c ≠ 46 := sign_not (y := Str.ofString ".") (d := 46) rfl h2
            exact ⟨rfl, z, rfl, rfl, nz0, fun e => by rw [ec] at e; exact absurd (by simpa using e) n46⟩
        · have h1 : ¬ (1 : Int) < z.length := fun e => h1 (decide_eq_true e)
          refine iteF ⟨rfl, z, rfl, rfl, nz0, fun e => str_ext ?_⟩
          rw [ec] at e zl
          have tl0 : tl = [] := List.length_eq_zero_iff.mp (by rw [List.length_cons] at zl; omega)
          have : c = 46 := by simpa using e
          rw [ec, tl0, this]; rfl
      · exact ⟨_, rfl, rfl, _, false, .inl ht, hk, false, rfl, iteT (iteT k)⟩
    case rest =>
      rintro σ H2 ⟨rfl, z, rfl, ex, nz0, hpt⟩
      rcases h with ⟨z', e', hz, kn, ks⟩ | ⟨hns, _⟩
      rotate_left
      · exact (noStr_str (by rw [ex] at hns; exact hns)).elim
      · rw [ex] at e'
        cases e'
        have zl : z.cps.toList.length = z.length := by simp [Str.length]
        refine ⟨Nat.zero_le _, fun p hp => ⟨_, rfl, z, rfl, for_by (n := z.length) (fun i σ H3 => ∃ (r : List Int) (v : Option V), laysOf (z.cps.toList.take i) = some r ∧ H3 p = some (.lst ((if z = point then [] else r.reverse).map V.int)) ∧ Same H2 H3 ∧ r.length = i ∧ σ = [some (.str z), some (.ref p), v]) ⟨[], none, rfl, by rw [upd_same]; split <;> rfl, same_new hp, rfl, rfl⟩ ?_ ?_⟩⟩
        · rintro σ H3 ⟨r, v, hr1, h3, s3, _, rfl⟩
          rw [← zl, List.take_length] at hr1
          exact ⟨Nat.le_refl _, _, rfl, ks _ (reads_all nz0 hpt hr1) p H3 hp h3 s3⟩
        · rintro i σ H3 hi ⟨r, v, hr1, h3, s3, rl, rfl⟩
          refine ⟨hi, fun x H4 y => ?_⟩
          obtain ⟨rfl, c, hc, rfl⟩ := y
          have hc2 : z.cps.toList[i]? = some c := by simpa using hc
          have hcm : c ∈ z.cps.toList := List.mem_of_getElem? hc2
          have ht1 : z.cps.toList.take (i + 1) = z.cps.toList.take i ++ [c] := by rw [List.take_add_one, hc2]; rfl
          refine ⟨_, rfl, _, _, rfl, rfl, _, rfl, ite2 (fun h1 => ?_) fun h1 => ?_⟩
          · have h1 : (!(!(Builtin.Str.occurrences signs ⟨#[c]⟩ 0 signs.length 1).isEmpty)) = true := h1
            rw [Bool.not_not, occ_empty] at h1
            exact kn (reads_bad hcm (of_decide_eq_true h1)) H4 s3
          have h1 : ¬ (!(!(Builtin.Str.occurrences signs ⟨#[c]⟩ 0 signs.length 1).isEmpty)) = true := h1
          rw [Bool.not_not, occ_empty] at h1
          have nf : findI c ≠ -1 := fun e => h1 (decide_eq_true e)
          have lc : layOf c = some (findI c - 1) := by rw [layOf_find, if_neg nf]
          have hn := laysOf_snoc hr1 lc
          rw [← ht1] at hn
          have size : ∀ l : List Int, l.length ≤ i → (l.map V.int).length < sizeLine := fun l hl => size63 (by rw [List.length_map]; omega)
          have ln : (if z = point then [] else r.reverse).length ≤ i := by split <;> simp <;> omega
          have np : c ≠ 46 → z ≠ point := fun h e => h (by subst e; simpa [point] using hcm)
          refine ⟨_, rfl, rfl, _, rfl, ite2 (fun h2 => ?_) fun h2 => ?_⟩
          · have e60 : c = 60 := sign_is (y := Str.ofString "<") (d := 60) rfl h2
            subst e60
            refine ⟨_, rfl, .inl ⟨rfl, _, SqL.of h3⟩, 1, rfl, p, _, _, rfl, rfl, h3, size _ ln, ?_⟩
            refine ⟨_, _, hn, ?_, same_upd s3 hp, by simp [rl], rfl⟩
            rw [upd_same, if_neg (np (by decide)), if_neg (np (by decide)), List.reverse_append]
            rfl
          have n60 : c ≠ 60 := sign_not (y := Str.ofString "<") (d := 60) rfl h2
          refine ⟨_, rfl, rfl, _, rfl, ite2 (fun h4 => ?_) fun h4 => ?_⟩
          · have e62 : c = 62 := sign_is (y := Str.ofString ">") (d := 62) rfl h4
            subst e62
            refine ⟨_, rfl, .inl ⟨rfl, _, SqL.of h3⟩, p, _, _, rfl, rfl, h3, size _ ln, ?_⟩
            refine ⟨_, _, hn, ?_, same_upd s3 hp, by simp [rl], rfl⟩
            rw [upd_same, if_neg (np (by decide)), if_neg (np (by decide)), List.reverse_append]
            rfl
          have n62 : c ≠ 62 := sign_not (y := Str.ofString ">") (d := 62) rfl h4
          have e46 : c = 46 := by
            unfold findI at nf
            rw [if_neg n60, if_neg n62] at nf
            by_cases q : c = 46
            · exact q
            · rw [if_neg q] at nf; exact absurd rfl nf
          subst e46
          refine ⟨_, rfl, rfl, _, rfl, ?_⟩
          by_cases ep : z = point
          · refine iteNS (by rw [ep]; rfl) ⟨_, _, hn, ?_, s3, by simp [rl], rfl⟩
            rw [if_pos ep] at h3 ⊢
            exact h3
          · have nz : ¬ (V.str z = V.str (Str.ofString ".")) := fun e => ep (by injection e)
            rw [decide_eq_false nz]
            refine iteT ⟨_, rfl, .inl ⟨rfl, _, SqL.of h3⟩, p, _, _, rfl, rfl, h3, size _ ln, ?_⟩
            refine ⟨_, _, hn, ?_, same_upd s3 hp, by simp [rl], rfl⟩
            rw [upd_same, if_neg ep, if_neg ep, List.reverse_append]
            rfl
theorem sc__law_shows_none : FnScope ["_law_thing", "e"] ["_law_thing"] (defScope st__law_shows_none) := ⟨rfl, rfl, rfl, by decide +kernel, rfl, by decide +kernel, by decide +kernel⟩
theorem ok__law_shows_none (D : DefAt K mg "_law_shows_none" st__law_shows_none) (T : Txt K mg CS CF CN CT CP) (C_shown : Callee P w K mg base 5 "shown" ["form"] (spShown K CF)) : Callee P w K mg base 6 "_law_shows_none" ["_law_thing"] (spRefusedB K) := by
  refine callee_nox D sc__law_shows_none (fun vs H Q E h => ?_) (fun _ _ _ _ _ _ us hl => match us, hl with | [_], _ => by kernel_rfl) (fun f cdv A outer s H vs Q E hr h => ?_)
  · obtain ⟨x, rfl, _⟩ := h
    rfl
  · obtain ⟨x, rfl, hb, k⟩ := h
    have nd := sc__law_shows_none.nd
    refine ⟨_, (qss (qs_try (i := 1) nd T.mS (fun xe pn E1 hpX => (qss_one (qs_expr (qe_def C_shown hr hpX (qa (qv 0) qa_nil))))) (fun ea pn => (qss (qs_if (qt_w (qw_or (qt_val (qe_isiC (K := K) T.isi T.mN (qv 1))) (qw_or (qt_val (qe_isiC (K := K) T.isi T.mT (qv 1))) (qw_or1 (qt_val (qe_isiC (K := K) T.isi T.mP (qv 1))))))) (qss_one (qs_ret qe_bl)) qss_nil)
        (qss_one (qs_ret (qe_and (qe_isiC (K := K) T.isi T.mF (qv 1)) (qe_one (qe_isiT (K := K) T.isi T.verr PyProof.Rows.Boot.«ValueError» (qv 1)))))))))
      (qss_one (qs_ret qe_bl))), ?_⟩
    refine ⟨_, rfl, _, rfl, .inr ⟨hb, CF, rfl, T.mmF, fun ea σ' hn hlen hget => ?_⟩⟩
    have ty : TyX K (upd H ea (exO ea CF)) (.ref ea) (.ref CF) := .inr ⟨ea, CF, rfl, rfl, upd_same, T.cF⟩
    refine ⟨_, hget, rfl, _, false, ty, T.kFN, false, rfl, iteF ⟨_, hget, rfl, _, false, ty, T.kFT, false, rfl, iteF ⟨_, hget, rfl, _, false, ty, T.kFP, false, rfl, iteF ?_⟩⟩⟩
    exact ⟨_, hget, rfl, _, true, ty, T.kFF, true, rfl, iteT ⟨_, hget, rfl, _, true, ty, T.kFV, k _ (same_new hn)⟩⟩
theorem sc__law_reads : FnScope ["_law_line", "_law_due_here", "_law_found", "e", "_law_k"] ["_law_line", "_law_due_here"] (defScope st__law_reads) := ⟨rfl, rfl, rfl, by decide +kernel, rfl, by decide +kernel, by decide +kernel⟩
theorem ok__law_reads (D : DefAt K mg "_law_reads" st__law_reads) (T : Txt K mg CS CF CN CT CP) (C_read : Callee P w K mg base 5 "read" ["text"] (spRead K CT)) (C__law_whole : Callee P w K mg base 5 "_law_whole" ["_law_found"] (spWhole K)) : Callee P w K mg base 6 "_law_reads" ["_law_line", "_law_due_here"] (spReads K) := by
  refine callee_nox D sc__law_reads (fun vs H Q E h => ?_) (fun _ _ _ _ _ _ us hl => match us, hl with | [_, _], _ => by kernel_rfl) (fun f cdv A outer s H vs Q E hr h => ?_)
  · obtain ⟨x, d, rfl, _⟩ := h
    rfl
  · obtain ⟨x, d, rfl, h⟩ := h
    have nd := sc__law_reads.nd
    let J1 : L2.St → Hp → Prop := fun σ H2 => ∃ (p b : Addr) (ns : List Int), σ = [some x, some d, some (.ref p), none, none] ∧ d = .ref b ∧ H2 p = some (.lst (ns.map V.int)) ∧ H2 b = some (.lst (ns.map V.int)) ∧ ns.length ≤ 10001 ∧ (∀ H', Same H2 H' → Q (.bl true) H')
    refine ⟨_, (qss (qs_set (i := 2) nd qe_non)
      (qss_mid J1 (qs_tryS (i := 3) nd T.mS (fun xe pn E1 hpX => (qss_one (qs_set (i := 2) nd (qe_defS C_read hr hpX (qa (qv 0) qa_nil))))) (fun ea pn => (qss (qs_if (qt_w (qw_or (qt_val (qe_isiC (K := K) T.isi T.mF (qv 3))) (qw_or (qt_val (qe_isiC (K := K) T.isi T.mN (qv 3))) (qw_or1 (qt_val (qe_isiC (K := K) T.isi T.mP (qv 3))))))) (qss_one (qs_ret qe_bl)) qss_nil)
        (qss_one (qs_ret (qe_and (qe_cmp q_isN (qv 1) qe_non) (qe_and (qe_isiC (K := K) T.isi T.mT (qv 3)) (qe_one (qe_isiT (K := K) T.isi T.verr PyProof.Rows.Boot.«ValueError» (qv 3))))))))))
      (qss (qs_if (qt_w (qw_or (qt_cmp q_isN (qv 1) qe_non) (qw_or (qt_not (qt_val (qe_isiT (K := K) T.isi T.list PyProof.Rows.Boot.«list» (qv 2)))) (qw_or1 (qt_cmp q_ne (qe_callB q_len T.len PyProof.Rows.Boot.«len» (qa (qv 2) qa_nil)) (qe_callB q_len T.len PyProof.Rows.Boot.«len» (qa (qv 1) qa_nil))))))) (qss_one (qs_ret qe_bl)) qss_nil)
      (qss (qs_for (qi_range1 T.range (qe_callB q_len T.len PyProof.Rows.Boot.«len» (qa (qv 1) qa_nil))) (qg_name (i := 4) nd) (qss_one (qs_if (qt_w (qw_or (qt_not (qt_val (qe_def C__law_whole hr qpN (qa (qe_ix q_ixl (qv 2) (qv 4)) qa_nil)))) (qw_or1 (qt_cmp q_ne (qe_ix q_ixl (qv 2) (qv 4)) (qe_ix q_ixl (qv 1) (qv 4)))))) (qss_one (qs_ret qe_bl)) qss_nil)))
      (qss_one (qs_ret qe_bl)))))), ?_⟩
    refine ⟨?first, ?rest⟩
    case first =>
      rcases h with ⟨z, ns, b, rfl, hrd, hz, rfl, hb, hl, k⟩ | ⟨rfl, hx, k⟩
      · refine ⟨_, rfl, _, rfl, .inl ⟨z, ns, rfl, hrd, hz, fun p H1 hp h1 s1 => ?_⟩⟩
        exact ⟨p, b, ns, rfl, rfl, h1, s1 _ _ hb, hl, fun H' s' => k H' (s1.trans s')⟩
      · refine ⟨_, rfl, _, rfl, .inr ⟨?_, fun H1 s1 => ⟨CT, rfl, T.mmT, fun ea hn => ?_⟩⟩⟩
        · rcases hx with ⟨z, rfl, hrd, hz⟩ | hx
          · exact .inl ⟨z, rfl, hrd, hz⟩
          · exact .inr hx
        have ty : TyX K (upd H1 ea (exO ea CT)) (.ref ea) (.ref CT) := .inr ⟨ea, CT, rfl, rfl, upd_same, T.cT⟩
        refine ⟨_, rfl, rfl, _, false, ty, T.kTF, false, rfl, iteF ⟨_, rfl, rfl, _, false, ty, T.kTN, false, rfl, iteF ⟨_, rfl, rfl, _, false, ty, T.kTP, false, rfl, iteF ?_⟩⟩⟩
        exact ⟨_, rfl, rfl, true, rfl, iteT ⟨_, rfl, rfl, _, true, ty, T.kTT, true, rfl, iteT ⟨_, rfl, rfl, _, true, ty, T.kTV, k _ (s1.trans (same_new hn))⟩⟩⟩
    case rest =>
      rintro σ H2 ⟨p, b, ns, rfl, rfl, hp, hb, hl, k⟩
      refine ⟨_, rfl, rfl, _, rfl, iteF ⟨_, rfl, rfl, _, true, .inl (.lst hp), kitT (by decide +kernel), true, rfl, iteF ⟨_, rfl, p, _, rfl, .inl (SqL.of hp), _, rfl, b, _, rfl, .inl (SqL.of hb), rfl, _, rfl, iteNS rfl ?_⟩⟩⟩
      refine ⟨_, rfl, b, _, rfl, .inl (SqL.of hb), _, rfl, by rw [List.length_map]; omega, by rw [List.length_map]; omega, for_by (n := ns.length) (fun i σ H3 => H3 = H2 ∧ ∃ v, σ = [some x, some (.ref b), some (.ref p), none, v]) ⟨rfl, none, rfl⟩ ?_ ?_⟩
      · rintro σ H3 ⟨rfl, v, rfl⟩
        refine ⟨?_, k H3 fun _ _ e => e⟩
        show ((((ns.map V.int).length : Nat) : Int)).toNat ≤ ns.length
        rw [List.length_map]; simp
      · rintro i σ H3 hi ⟨rfl, v, rfl⟩
        refine ⟨?_, fun x' H4 y => ?_⟩
        · show i < ((((ns.map V.int).length : Nat) : Int)).toNat
          rw [List.length_map]; simpa using hi
        obtain ⟨rfl, hx⟩ := y
        have hx : x' = .int (i : Nat) := by rw [hx]; congr 1; omega
        subst hx
        have hv : (ns.map V.int)[i]? = some (V.int ns[i]) := by rw [List.getElem?_map, List.getElem?_eq_getElem hi]; rfl
        refine ⟨_, rfl, _, rfl, p, _, _, _, rfl, rfl, SqL.of hp, atI_nat hv, _, true, rfl, .inl ⟨ns[i], rfl, rfl⟩, true, rfl, iteF ⟨_, rfl, _, rfl, p, _, _, _, rfl, rfl, SqL.of hp, atI_nat hv, _, rfl, _, rfl, b, _, _, _, rfl, rfl, SqL.of hb, atI_nat hv, rfl, _, rfl, iteNS rfl ⟨rfl, _, rfl⟩⟩⟩
theorem sc_law : FnScope ["_law_script", "_law_head", "_law_lays", "_law_kept", "_law_line", "_law_found", "_law_far"] ["_law_script"] (defScope st_law) := ⟨rfl, rfl, rfl, by decide +kernel, rfl, by decide +kernel, by decide +kernel⟩
theorem ok_law {f : Addr} {fd : FuncData} (F : Fun K "law" "law" st_law f fd) (T : Txt K mg CS CF CN CT CP) (C__law_cell_at : Callee P w K mg base 6 "_law_cell_at" ["_law_script", "_law_k"] (spCell K)) (C__law_form_by : Callee P w K mg base 6 "_law_form_by" ["_law_way", "_law_cells"] (spFormBy K 9))
    (C_shown : Callee P w K mg base 6 "shown" ["form"] (spShown K CF)) (C__law_line_by : Callee P w K mg base 6 "_law_line_by" ["_law_way", "_law_line", "_law_cell", "_law_sign"] spLineBy) (C__law_sign_by : Callee P w K mg base 6 "_law_sign_by" ["_law_cell"] spSignBy) (C__law_reads : Callee P w K mg base 6 "_law_reads" ["_law_line", "_law_due_here"] (spReads K))
    (C__law_due : Callee P w K mg base 6 "_law_due" ["_law_line"] (spDue4 K)) (C__law_shows_none : Callee P w K mg base 6 "_law_shows_none" ["_law_thing"] (spRefusedB K)) (C__law_bad_by : Callee P w K mg base 6 "_law_bad_by" ["_law_lays", "_law_cell"] (spBadBy K)) :
    FnOk P w K mg base (CX1 P w) 7 f fd ["_law_script"] (spLaw K) := by
  refine fn_nox F sc_law (fun vs H Q E h => ?_) (fun f cdv A outer s H vs Q E hr h => ?_)
  · obtain ⟨a, ns, rfl, _⟩ := h
    rfl
  · obtain ⟨a, ns, rfl, hS, hl, k⟩ := h
    have nd := sc_law.nd
    have hu := hr.units
    let J4 : L2.St → Hp → Prop := fun σ H2 => ∃ (head : Int) (p q : Addr) (lays : List Int), σ = [some (.ref a), some (.int head), some (.ref p), some (.ref q), some (.str (txtOf lays)), none, none] ∧ H2 p = some (.lst (lays.map V.int)) ∧ H2 q = some (.lst (lays.map V.int)) ∧ IsF lays ∧ lays.length ≤ 567 ∧ Same H H2
    let J8 : L2.St → Hp → Prop := fun σ H2 => ∃ (head far : Int) (p q : Addr) (lays : List Int) (z y : Str), σ = [some (.ref a), some (.int head), some (.ref p), some (.ref q), some (.str z), some (.str y), some (.int far)] ∧ z.length ≤ 3000 ∧ H2 q = some (.lst (lays.map V.int)) ∧ IsF lays ∧ lays.length ≤ 567 ∧ Same H H2
    let J9 : L2.St → Hp → Prop := fun σ H2 => ∃ (head far : Int) (p q : Addr) (lays : List Int) (x : V) (y : Str), σ = [some (.ref a), some (.int head), some (.ref p), some (.ref q), some x, some (.str y), some (.int far)] ∧ ((∃ z : Str, x = .str z ∧ z.length ≤ 3000) ∨ NoStr K H2 x) ∧ H2 q = some (.lst (lays.map V.int)) ∧ IsF lays ∧ lays.length ≤ 567 ∧ Same H H2
    refine ⟨_, (qss (qs_set (i := 1) nd (qe_def C__law_cell_at hr qpN (qa (qv 0) (qa qe_int qa_nil))))
      (qss (qs_set (i := 2) nd (qe_def C__law_form_by hr qpN (qa (qe_op q_fdiv (qv 1) qe_int) (qa (qe_slice q_sll (qv 0) (qo_some qe_int) (qo_some qe_int)) qa_nil))))
      (qss (qs_set (i := 3) nd (qe_callTy q_list T.list PyProof.Rows.Boot.«list» (qa (qv 2) qa_nil)))
      (qss (qs_set (i := 4) nd (qe_bm1 PySem.F.plainAttrs_str PySem.F.slot_str_join PySem.F.type_str_join q_join qe_str (qe_comp ["_law_lay"] [none] (qi_rev T.reversed (qv 3)) (fun C5 fp5 s5 H5 => (qg_name (i := 0) (by decide +kernel : (["_law_lay"] : List Str).Nodup))) (fun C5 fp5 s5 H5 => qts_nil) (fun C5 fp5 s5 H5 => (qe_ix q_ixs qe_str (qe_op q_add (qv 0) qe_int))))))
      (qss_mid J4 (qs_if (qt_cmp q_eq (qv 4) qe_str) (qss_one (qs_set (i := 4) nd qe_str)) qss_nil)
      (qss (qs_set (i := 5) nd (qe_def C_shown hr qpN (qa (qv 2) qa_nil)))
      (qss (qs_if (qt_w (qw_or (qt_not (qt_val (qe_isiT (K := K) T.isi T.str PyProof.Rows.Boot.«str» (qv 5)))) (qw_or (qt_cmp q_ne (qv 5) (qv 4)) (qw_or1 (qt_cmp (q_neI hu) (qv 2) (qv 3)))))) (qss_one (qs_ret qe_bl)) qss_nil)
      (qss (qs_set (i := 6) nd (qe_def C__law_cell_at hr qpN (qa (qv 0) (qa qe_int qa_nil))))
      (qss_mid J8 (qs_if (qt_cmp q_lt (qe_op q_mod (qv 1) qe_int) qe_int) (qss_one (qs_set (i := 4) nd (qe_def C__law_line_by hr qpN (qa (qe_op q_mod (qv 1) qe_int) (qa (qv 4) (qa (qe_op q_mod (qe_def C__law_cell_at hr qpN (qa (qv 0) (qa qe_int qa_nil))) (qe_op q_pow qe_int qe_int)) (qa (qe_def C__law_sign_by hr qpN (qa (qv 6) qa_nil)) qa_nil))))))) qss_nil)
      (qss_mid J9 (qs_if (qt_cmp q_eq (qe_op q_mod (qv 1) qe_int) qe_int) (qss_one (qs_set (i := 4) nd (qe_ix q_ixl (qe_lst (qa qe_non (qa qe_bl (qa qe_int (qa qe_int (qa (qe_lst qa_nil) (qa (qe_lst (qa qe_str qa_nil)) (qa (qe_tup (qa qe_str qa_nil)) (qa (qe_tup qa_nil) (qa qe_dnew qa_nil)))))))))) (qe_op q_mod (qv 6) qe_int)))) qss_nil)
      (qss_one (qs_ret (qe_and (qe_def C__law_reads hr qpN (qa (qv 4) (qa (qe_def C__law_due hr qpN (qa (qv 4) qa_nil)) qa_nil))) (qe_one (qe_def C__law_shows_none hr qpN (qa (qe_def C__law_bad_by hr qpN (qa (qv 3) (qa (qe_def C__law_cell_at hr qpN (qa (qv 0) (qa qe_int qa_nil))) qa_nil))) qa_nil)))))))))))))))), ?_⟩
    refine ⟨_, rfl, a, ns, 0, rfl, hS, Int.le_refl _, hl, fun head => ?_⟩
    obtain ⟨c1, ec1, _, hc1⟩ := cut_ints ns (some 4) (some 204)
    refine ⟨_, rfl, _, _, rfl, rfl, ⟨by decide, by decide⟩, _, rfl, _, rfl, _, rfl, a, _, rfl, hS, fun d1 g1 => ?_⟩
    rw [ec1]
    refine ⟨_, d1, c1, rfl, SqL.of upd_same, by omega, fun p lays H1 hp h1 s1 hf hlen => ?_⟩
    have s1 : Same H H1 := (same_new g1).trans s1
    refine ⟨_, rfl, p, _, rfl, .inl (SqL.of h1), fun q g2 => ?_⟩
    have s2 : Same H (upd H1 q (.lst (lays.map V.int))) := s1.trans (same_new g2)
    have hp2 : upd H1 q (.lst (lays.map V.int)) p = some (.lst (lays.map V.int)) := upd_keep h1 g2
    have hq2 : upd H1 q (.lst (lays.map V.int)) q = some (.lst (lays.map V.int)) := upd_same
    generalize upd H1 q (.lst (lays.map V.int)) = H2 at s2 hp2 hq2
    -- line
    have ej : PySem.Txt.join (Str.ofString "") (lays.reverse.map fun z => (⟨#[sign z]⟩ : Str)) = ⟨(lays.reverse.map sign).toArray⟩ := by
      have e : (lays.reverse.map fun z => (⟨#[sign z]⟩ : Str)) = (lays.reverse.map sign).map fun c => (⟨#[c]⟩ : Str) := by rw [List.map_map]; rfl
      rw [e]; exact join_signs _
    refine ⟨rfl, _, rfl, q, _, rfl, SqL.of hq2, fun D hD => comp_on (n := (lays.map V.int).length) (fun i vs σ H3 => vs = ((lays.reverse.take i).map fun z => (⟨#[sign z]⟩ : Str)).map V.str ∧ (∃ v, σ = [v]) ∧ H3 D = some (.lst vs) ∧ Same H2 H3) ⟨rfl, ⟨none, rfl⟩, upd_same, same_new hD⟩ ?_ ?_⟩
    rotate_left
    · rintro i vs σ H3 hi ⟨rfl, ⟨v, rfl⟩, h3, s3⟩
      rw [List.length_map] at hi
      have hx : (lays.map V.int)[(lays.map V.int).length - 1 - i]? = some (V.int (lays[lays.length - 1 - i]'(by omega))) := by rw [List.length_map, List.getElem?_map, List.getElem?_eq_getElem (by omega)]; rfl
      refine ⟨⟨by rw [List.length_map]; exact hi, _, _, SqL.of (s3 _ _ hq2), hx⟩, fun x H4 R y hR => ?_⟩
      obtain ⟨rfl, y⟩ := y
      have ex := y _ (SqL.of (s3 _ _ hq2))
      rw [hx] at ex
      have ex : V.int (lays[lays.length - 1 - i]'(by omega)) = x := Option.some.inj ex
      subst ex
      have hr2 : lays.reverse[i]? = some (lays[lays.length - 1 - i]'(by omega)) := by rw [List.getElem?_reverse hi, List.getElem?_eq_getElem (by omega)]
      generalize lays[lays.length - 1 - i]'(by omega) = z at hr2 ⊢
      have lz := hf.lays z (List.mem_reverse.mp (List.mem_of_getElem? hr2))
      refine step_name ⟨_, rfl, _, _, rfl, rfl, signs, _, sign z, rfl, rfl, (by decide), sign_at lz, h3, size63 (by simp; omega), hR _ _ _ ⟨?_, ⟨_, rfl⟩, upd_same, same_upd s3 hD⟩⟩
      rw [List.take_add_one, hr2, List.map_append, List.map_append]
      rfl
    rintro vs σ H3 ⟨rfl, ⟨v, rfl⟩, h3, s3⟩
    rw [List.length_map, ← List.length_reverse, List.take_length] at h3
    refine ⟨by rw [List.length_map]; rfl, Str.ofString "", D, _, rfl, rfl, SqL.of h3, ?_, ?_⟩
    · have e : (lays.reverse.map fun z => (⟨#[sign z]⟩ : Str)) = (lays.reverse.map sign).map fun c => (⟨#[c]⟩ : Str) := by rw [List.map_map]; rfl
      rw [e]
      exact join_fits _ (by rw [List.length_map, List.length_reverse]; omega)
    rw [ej]
    have s23 := s2.trans s3
    refine ⟨⟨_, rfl, rfl, _, rfl, ite2 (fun h0 => ?_) fun h0 => ?_⟩, ?_⟩
    · have e0 : lays = [] := by
        have := of_decide_eq_true h0
        injection this with this
        have := congrArg (fun z : Str => z.cps.toList) this
        have : lays.reverse.map sign = [] := this
        simpa using this
      subst e0
      exact ⟨head, p, q, [], rfl, s3 _ _ hp2, s3 _ _ hq2, hf, by omega, s23⟩
    · have ne : lays ≠ [] := fun e => h0 (by subst e; rfl)
      refine ⟨head, p, q, lays, ?_, s3 _ _ hp2, s3 _ _ hq2, hf, by omega, s23⟩
      unfold txtOf
      rw [if_neg ne]
      rfl
    rintro σ H4 ⟨head, p, q, lays, rfl, hp4, hq4, hf, hlen, s4⟩
    refine ⟨_, rfl, .ref p, rfl, .inl ⟨lays, ⟨p, rfl, hp4, hf⟩, by omega, fun H5 s5 => ?_⟩⟩
    have s45 := s4.trans s5
    refine ⟨_, rfl, rfl, _, true, .inl (.str _), kitT (by decide +kernel), true, rfl, iteF ⟨_, rfl, _, rfl, rfl, _, rfl, iteNS rfl ⟨_, rfl, _, rfl, p, q, lays, lays, rfl, rfl, SqL.of (s5 _ _ hp4), SqL.of (s5 _ _ hq4), _, rfl, iteNS rfl ?_⟩⟩⟩
    refine ⟨_, rfl, a, ns, 2, rfl, s45.seq hS, by decide, hl, fun far => ?_⟩
    have tl := txt_len lays
    refine ⟨⟨_, rfl, _, _, rfl, rfl, (by decide : (0 : Int) < 7), _, _, rfl, rfl, _, rfl, ite2 (fun _ => ?_) fun _ => ?_⟩, ?_⟩
    · refine ⟨_, rfl, _, _, rfl, rfl, (by decide : (0 : Int) < 7), _, rfl, _, rfl, a, ns, 1, rfl, s45.seq hS, by decide, hl, fun cell => ?_⟩
      refine ⟨_, _, rfl, rfl, ⟨by decide, by decide, by decide⟩, _, _, rfl, rfl, (show (0 : Int) < 10 ^ Int.toNat 15 by decide), _, rfl, far, rfl, fun sg hsg => ?_⟩
      refine ⟨_, _, _, sg, rfl, by omega, hsg, fun z hz => ?_⟩
      exact ⟨head, far, p, q, lays, z, txtOf lays, rfl, hz, s5 _ _ hq4, hf, hlen, s45⟩
    · exact ⟨head, far, p, q, lays, txtOf lays, txtOf lays, rfl, by omega, s5 _ _ hq4, hf, hlen, s45⟩
    rintro σ H6 ⟨head, far, p, q, lays, z, y, rfl, hz, hq6, hf, hlen, s6⟩
    refine ⟨⟨_, rfl, _, _, rfl, rfl, (by decide : (0 : Int) < 7), rfl, _, rfl, ite2 (fun _ => ?_) fun _ => ?_⟩, ?_⟩
    · refine ⟨Nat.zero_le _, fun q1 g1 => ⟨(by decide : 1 ≤ sizeLine), fun q2 g2 => ⟨(by decide : 1 ≤ sizeLine), fun q3 g3 => ⟨(by decide : 0 ≤ sizeLine), fun q4 g4 q5 g5 => ⟨(by decide : 9 ≤ sizeLine), fun q7 g7 => ?_⟩⟩⟩⟩⟩
      obtain ⟨v, hv, hm⟩ := atI_some [V.non, V.bl true, V.int 0, V.int 1, V.ref q1, V.ref q2, V.ref q3, V.ref q4, V.ref q5] (i := far % 9) (by omega) (by simp; omega)
      refine ⟨_, rfl, _, _, rfl, rfl, (by decide : (0 : Int) < 9), q7, _, _, v, rfl, rfl, SqL.of upd_same, hv, ?_⟩
      have sz := ((((same_new (H := H6) (o := .lst []) g1).trans (same_new (o := .lst [V.str (Str.ofString ">")]) g2)).trans (same_new (o := .tup [V.str (Str.ofString ">")]) g3)).trans (same_new (o := .tup []) g4)).trans ((same_new (o := .dK []) g5).trans (same_new (o := .lst [V.non, V.bl true, V.int 0, V.int 1, V.ref q1, V.ref q2, V.ref q3, V.ref q4, V.ref q5]) g7))
      refine ⟨head, far, p, q, lays, v, y, rfl, .inr ?_, sz _ _ hq6, hf, hlen, s6.trans sz⟩
      simp only [List.mem_cons, List.not_mem_nil, or_false] at hm
      rcases hm with rfl | rfl | rfl | rfl | rfl | rfl | rfl | rfl | rfl
      · exact ⟨_, .non, by decide +kernel⟩
      · exact ⟨_, .bl _, by decide +kernel⟩
      · exact ⟨_, .int _, by decide +kernel⟩
      · exact ⟨_, .int _, by decide +kernel⟩
      · exact ⟨_, .lst (upd_keep (upd_keep (upd_keep (upd_keep (upd_keep upd_same g2) g3) g4) g5) g7), by decide +kernel⟩
      · exact ⟨_, .lst (upd_keep (upd_keep (upd_keep (upd_keep upd_same g3) g4) g5) g7), by decide +kernel⟩
      · exact ⟨_, .tup (upd_keep (upd_keep (upd_keep upd_same g4) g5) g7), by decide +kernel⟩
      · exact ⟨_, .tup (upd_keep (upd_keep upd_same g5) g7), by decide +kernel⟩
      · exact ⟨_, .dK (upd_keep upd_same g7), by decide +kernel⟩
    · exact ⟨head, far, p, q, lays, .str z, y, rfl, .inl ⟨z, rfl, hz⟩, hq6, hf, hlen, s6⟩
    rintro σ H8 ⟨head, far, p, q, lays, x, y, rfl, hx, hq8, hf, hlen, s8⟩
    rcases hx with ⟨z, rfl, hz⟩ | hns
    · refine ⟨_, rfl, _, rfl, .str z, rfl, .inl ⟨z, rfl, by omega, fun hrd H9 s9 => ?_, fun ms hrd b H9 hb h9 s9 => ?_⟩⟩
      · refine ⟨.str z, .non, rfl, .inr ⟨rfl, .inl ⟨z, rfl, hrd, by omega⟩, fun H10 s10 => ?_⟩⟩
        have s810 := s8.trans (s9.trans s10)
        refine ⟨true, rfl, iteT ⟨_, rfl, _, rfl, a, ns, 3, rfl, s810.seq hS, by decide, hl, fun cell => ⟨q, lays, cell, rfl, s10 _ _ (s9 _ _ hq8), hf, by omega, fun bad H11 s11 hbad => ⟨bad, rfl, hbad, fun H12 _ => k H12⟩⟩⟩⟩
      · have ml := read_len hrd
        refine ⟨.str z, .ref b, rfl, .inl ⟨z, ms, b, rfl, hrd, by omega, rfl, h9, by omega, fun H10 s10 => ?_⟩⟩
        have s810 := s8.trans (s9.trans s10)
        refine ⟨true, rfl, iteT ⟨_, rfl, _, rfl, a, ns, 3, rfl, s810.seq hS, by decide, hl, fun cell => ⟨q, lays, cell, rfl, s10 _ _ (s9 _ _ hq8), hf, by omega, fun bad H11 s11 hbad => ⟨bad, rfl, hbad, fun H12 _ => k H12⟩⟩⟩⟩
    · refine ⟨_, rfl, _, rfl, x, rfl, .inr ⟨hns, x, .non, rfl, .inr ⟨rfl, .inr hns, fun H10 s10 => ?_⟩⟩⟩
      have s810 := s8.trans s10
      refine ⟨true, rfl, iteT ⟨_, rfl, _, rfl, a, ns, 3, rfl, s810.seq hS, by decide, hl, fun cell => ⟨q, lays, cell, rfl, s10 _ _ hq8, hf, by omega, fun bad H11 s11 hbad => ⟨bad, rfl, hbad, fun H12 _ => k H12⟩⟩⟩⟩
theorem law_all {l : PySem.W.OpenLaw} {fa : Addr} (hmg : mg "law" = some (.ref fa)) (T : Txt K mg CS CF CN CT CP) (D1 : DefAt K mg "is_whole" st_is_whole) (D2 : DefAt K mg "is_lay" st_is_lay) (D3 : DefAt K mg "is_form" st_is_form) (D4 : DefAt K mg "require_form" st_require_form) (D5 : DefAt K mg "shown" st_shown) (D6 : DefAt K mg "lays_in" st_lays_in) (D7 : DefAt K mg "writes_form" st_writes_form) (D8 : DefAt K mg "read" st_read) (D9 : DefAt K mg "_law_cell_at" st__law_cell_at) (D10 : DefAt K mg "_law_whole" st__law_whole) (D11 : DefAt K mg "_law_form_by" st__law_form_by) (D12 : DefAt K mg "_law_bad_by" st__law_bad_by) (D13 : DefAt K mg "_law_sign_by" st__law_sign_by) (D14 : DefAt K mg "_law_line_by" st__law_line_by) (D15 : DefAt K mg "_law_due" st__law_due) (D16 : DefAt K mg "_law_shows_none" st__law_shows_none) (D17 : DefAt K mg "_law_reads" st__law_reads) (D18 : DefAt K mg "law" st_law) (G_SIGNS : ∃ u, mg "SIGNS" = some u ∧ RelV (.str signs) u) (G_WITHOUT_LAYS : ∃ u, mg "WITHOUT_LAYS" = some u ∧ RelV (.str point) u) :
    ∃ fd : FuncData, (∀ (s : Shared) (u : Value), BindsTo s fd ⟨[u], []⟩ [("_law_script", u)]) ∧ ∀ base : Heap, K.In base → base.Ns mainGlobals mg → FnOk l.prog w K mg base (CX1 l.prog w) 7 fa fd ["_law_script"] (spLaw K) := by
  obtain ⟨f, fd, F, hm⟩ := D18
  have e := hmg.symm.trans hm
  cases e
  refine ⟨fd, law_binds F (fun _ _ _ _ _ _ us hl => match us, hl with | [_], _ => by kernel_rfl), fun base _ _ => ?_⟩
  have C1 := ok_is_whole (P := l.prog) (w := w) (base := base) D1 T
  have C2 := ok_is_lay (P := l.prog) (w := w) (base := base) D2 C1
  have C3 := ok_is_form (P := l.prog) (w := w) (base := base) D3 T C2
  have C4 := ok_require_form (P := l.prog) (w := w) (base := base) D4 T C3
  have C5 := ok_shown (P := l.prog) (w := w) (base := base) D5 T G_SIGNS G_WITHOUT_LAYS C4
  have C6 := ok_lays_in (P := l.prog) (w := w) (base := base) D6 T G_SIGNS
  have C7 := ok_writes_form (P := l.prog) (w := w) (base := base) D7 T G_WITHOUT_LAYS (C6.mono (by decide)) C3
  have C8 := ok_read (P := l.prog) (w := w) (base := base) D8 T G_WITHOUT_LAYS C7 (C6.mono (by decide))
  have C9 := ok__law_cell_at (P := l.prog) (w := w) (base := base) D9 T
  have C10 := ok__law_whole (P := l.prog) (w := w) (base := base) D10 T
  have C11 := ok__law_form_by (P := l.prog) (w := w) (base := base) D11 T
  have C12 := ok__law_bad_by (P := l.prog) (w := w) (base := base) D12 T
  have C13 := ok__law_sign_by (P := l.prog) (w := w) (base := base) D13 T
  have C14 := ok__law_line_by (P := l.prog) (w := w) (base := base) D14 T C13
  have C15 := ok__law_due (P := l.prog) (w := w) (base := base) D15 T
  have C16 := ok__law_shows_none (P := l.prog) (w := w) (base := base) D16 T C5
  have C17 := ok__law_reads (P := l.prog) (w := w) (base := base) D17 T C8 (C10.mono (by decide))
  exact ok_law F T (C9.mono (by decide)) (C11.mono (by decide)) (C5.mono (by decide)) (C14.mono (by decide)) (C13.mono (by decide)) C17 (C15.mono (by decide)) C16 (C12.mono (by decide))
end
end Pk
open PySem PySem.W PyProof.Rows
set_option maxRecDepth 100000 in
set_option maxHeartbeats 0 in
theorem PySem.Challenge.cw_poisescale_k04_written_and_read_holds : PySem.Challenge.rw_poisescale_k04_written_and_read.Holds := by
  w_on; o_law; k_head; (case hw => w_witness2)
  k_fill
  refine Pk.walk (l := PySem.Challenge.rw_poisescale_k04_written_and_read) (k := 7) rfl rfl ⟨rfl, by decide, by decide⟩ (fun w h Y => PySem.W.kIn_of Y) ?F
  case F =>
    intro w mg fa h KX G hmg
    refine' Pk.law_all hmg (Pk.txt_mk KX G ?b1 ?b2 ?b3 ?b4 ?b5 ?b6 ?b7 ?b8 ?b9 ?b10 ?b11 ?b12 ?b13 ?b14 ?b15 ?m1 ?m2 ?m3 ?m4 ?m5 ?x1 ?x2 ?x3 ?x4 ?e0 ?e1 ?n1 ?e2 ?n2 ?e3 ?n3 ?e4 ?n4 ?f1 ?f2 ?f3 ?f4 ?f5 ?f6 ?g1 ?g2 ?g3 ?g4 ?g5 ?g6 ?h1 ?h2 ?h3 ?h4 ?h5 ?h6 ?j1 ?j2 ?j3 ?j4 ?j5 ?j6 ?k1 ?k2 ?k3 ?k4 ?k5 ?k6 ?k7 ?k8 ?k9 ?k10 ?k11 ?k12 ?k13 ?k14 ?k15 ?k16 ?k17 ?k18 ?k19 ?k20) (Pk.def_mk KX G ?a1 ?l1 ?c1 ?d1) (Pk.def_mk KX G ?a2 ?l2 ?c2 ?d2) (Pk.def_mk KX G ?a3 ?l3 ?c3 ?d3) (Pk.def_mk KX G ?a4 ?l4 ?c4 ?d4) (Pk.def_mk KX G ?a5 ?l5 ?c5 ?d5) (Pk.def_mk KX G ?a6 ?l6 ?c6 ?d6) (Pk.def_mk KX G ?a7 ?l7 ?c7 ?d7) (Pk.def_mk KX G ?a8 ?l8 ?c8 ?d8) (Pk.def_mk KX G ?a9 ?l9 ?c9 ?d9) (Pk.def_mk KX G ?a10 ?l10 ?c10 ?d10) (Pk.def_mk KX G ?a11 ?l11 ?c11 ?d11) (Pk.def_mk KX G ?a12 ?l12 ?c12 ?d12) (Pk.def_mk KX G ?a13 ?l13 ?c13 ?d13) (Pk.def_mk KX G ?a14 ?l14 ?c14 ?d14) (Pk.def_mk KX G ?a15 ?l15 ?c15 ?d15) (Pk.def_mk KX G ?a16 ?l16 ?c16 ?d16) (Pk.def_mk KX G ?a17 ?l17 ?c17 ?d17) (Pk.def_mk KX G ?a18 ?l18 ?c18 ?d18) (Pk.gl_mk KX G ?u0 ?v0) (Pk.gl_mk KX G ?u1 ?v1)
    (case b1 => k_is)
    (case b2 => k_is)
    (case b3 => k_is)
    (case b4 => k_is)
    (case b5 => k_is)
    (case b6 => k_is)
    (case b7 => k_is)
    (case b8 => k_is)
    (case b9 => k_is)
    (case b10 => k_is)
    (case b11 => k_is)
    (case b12 => k_is)
    (case b13 => k_is)
    (case b14 => k_is)
    (case b15 => k_is)
    (case m1 => k_is)
    (case m2 => k_is)
    (case m3 => k_is)
    (case m4 => k_is)
    (case m5 => k_is)
    (case x1 => k_exc)
    (case x2 => k_exc)
    (case x3 => k_exc)
    (case x4 => k_exc)
    (case e0 => k_is)
    (case e1 => kit_is)
    (case n1 => rfl)
    (case e2 => kit_is)
    (case n2 => rfl)
    (case e3 => kit_is)
    (case n3 => rfl)
    (case e4 => kit_is)
    (case n4 => rfl)
    (case f1 => k_is)
    (case f2 => k_is)
    (case f3 => k_is)
    (case f4 => k_is)
    (case f5 => k_is)
    (case f6 => k_is)
    (case g1 => k_is)
    (case g2 => k_is)
    (case g3 => k_is)
    (case g4 => k_is)
    (case g5 => k_is)
    (case g6 => k_is)
    (case h1 => k_is)
    (case h2 => k_is)
    (case h3 => k_is)
    (case h4 => k_is)
    (case h5 => k_is)
    (case h6 => k_is)
    (case j1 => k_is)
    (case j2 => k_is)
    (case j3 => k_is)
    (case j4 => k_is)
    (case j5 => k_is)
    (case j6 => k_is)
    (case k1 => kit_is)
    (case k2 => kit_is)
    (case k3 => kit_is)
    (case k4 => kit_is)
    (case k5 => kit_is)
    (case k6 => kit_is)
    (case k7 => kit_is)
    (case k8 => kit_is)
    (case k9 => kit_is)
    (case k10 => kit_is)
    (case k11 => kit_is)
    (case k12 => kit_is)
    (case k13 => kit_is)
    (case k14 => kit_is)
    (case k15 => kit_is)
    (case k16 => kit_is)
    (case k17 => kit_is)
    (case k18 => kit_is)
    (case k19 => kit_is)
    (case k20 => kit_is)
    (case a1 => k_is); (case l1 => k_is); (case c1 => k_is); (case d1 => k_is)
    (case a2 => k_is); (case l2 => k_is); (case c2 => k_is); (case d2 => k_is)
    (case a3 => k_is); (case l3 => k_is); (case c3 => k_is); (case d3 => k_is)
    (case a4 => k_is); (case l4 => k_is); (case c4 => k_is); (case d4 => k_is)
    (case a5 => k_is); (case l5 => k_is); (case c5 => k_is); (case d5 => k_is)
    (case a6 => k_is); (case l6 => k_is); (case c6 => k_is); (case d6 => k_is)
    (case a7 => k_is); (case l7 => k_is); (case c7 => k_is); (case d7 => k_is)
    (case a8 => k_is); (case l8 => k_is); (case c8 => k_is); (case d8 => k_is)
    (case a9 => k_is); (case l9 => k_is); (case c9 => k_is); (case d9 => k_is)
    (case a10 => k_is); (case l10 => k_is); (case c10 => k_is); (case d10 => k_is)
    (case a11 => k_is); (case l11 => k_is); (case c11 => k_is); (case d11 => k_is)
    (case a12 => k_is); (case l12 => k_is); (case c12 => k_is); (case d12 => k_is)
    (case a13 => k_is); (case l13 => k_is); (case c13 => k_is); (case d13 => k_is)
    (case a14 => k_is); (case l14 => k_is); (case c14 => k_is); (case d14 => k_is)
    (case a15 => k_is); (case l15 => k_is); (case c15 => k_is); (case d15 => k_is)
    (case a16 => k_is); (case l16 => k_is); (case c16 => k_is); (case d16 => k_is)
    (case a17 => k_is); (case l17 => k_is); (case c17 => k_is); (case d17 => k_is)
    (case a18 => k_is); (case l18 => k_is); (case c18 => k_is); (case d18 => k_is)
    (case u0 => k_is); (case v0 => first | rfl | decide +kernel)
    (case u1 => k_is); (case v1 => first | rfl | decide +kernel)
#print axioms PySem.Challenge.cw_poisescale_k04_written_and_read_holds
