import PyProof.Rows.All
import Wide.All
import OpenK.AllK
import Wide.FinOn
import Lean
import PyProof.EqAt
import PyProof.EqKinds
import PyProof.TupleCall
import PyProof.ZipIter
import PySem.Challenge.RW_lockstretch_k01_lots
set_option Elab.async false
set_option linter.all false
set_option maxRecDepth 100000
/-! THE HAND LAYER, for ints, bools, texts, own classes, LISTS and tuples (index, slices, in, append, pop ..), calls, loops. Paste it whole ahead of your own text; what your proof does not reach may be deleted. -/
namespace L2
open PySem PySem.Spec PyProof.Rows

/-- a key: an int or a str -/
abbrev Key := Sum Int Str
def keyIs : Key → Value → Bool
  | .inl k, v => Value.isInt k v
  | .inr x, v => Value.isStrOf x v
def keyH (w : World) : Key → Int
  | .inl k => hashInt k
  | .inr x => hashStr w x
theorem keyIs_shape : ∀ {k : Key} {v : Value}, keyIs k v = true → (∃ i t, k = Sum.inl i ∧ v = Value.int i t) ∨ (∃ x t, k = Sum.inr x ∧ v = Value.str x t)
  | .inl i, v, h => by
    obtain ⟨t, e⟩ := Value.isInt_shape (k := i) (v := v) h
    exact .inl ⟨i, t, rfl, e⟩
  | .inr x, v, h => by
    obtain ⟨t, e⟩ := Value.isStrOf_shape (x := x) (v := v) h
    exact .inr ⟨x, t, rfl, e⟩
theorem keyIs_int (i : Int) (t : Tok) : keyIs (.inl i) (.int i t) = true := by simp [keyIs, Value.isInt]
theorem keyIs_str (x : Str) (t : Tok) : keyIs (.inr x) (.str x t) = true := by simp [keyIs, Value.isStrOf]
theorem key_ll (a b : Int) : decide ((Sum.inl a : Key) = Sum.inl b) = (a == b) := by
  by_cases e : a = b
  · subst e; simp
  · have h : ¬ (Sum.inl a : Key) = Sum.inl b := fun q => e (Sum.inl.inj q)
    rw [decide_eq_false h]
    exact (beq_eq_false_iff_ne.mpr e).symm
theorem key_rr (a b : Str) : decide ((Sum.inr a : Key) = Sum.inr b) = decide (a = b) := by
  by_cases e : a = b
  · subst e; simp
  · have h : ¬ (Sum.inr a : Key) = Sum.inr b := fun q => e (Sum.inr.inj q)
    rw [decide_eq_false h, decide_eq_false e]
theorem key_lr (a : Int) (b : Str) : decide ((Sum.inl a : Key) = Sum.inr b) = false := decide_eq_false (fun q => nomatch q)
theorem key_rl (a : Str) (b : Int) : decide ((Sum.inr a : Key) = Sum.inl b) = false := decide_eq_false (fun q => nomatch q)

def mixKind (prog : Program) (w : World) : PySem.KeyKind prog w Key where
  is := keyIs
  hash := keyH w
  inj := fun v a b ha hb => by
    rcases keyIs_shape ha with ⟨i, t, rfl, rfl⟩ | ⟨x, t, rfl, rfl⟩
    · rcases keyIs_shape hb with ⟨j, u, rfl, e⟩ | ⟨y, u, rfl, e⟩
      · injection e with e1 _; rw [e1]
      · exact nomatch e
    · rcases keyIs_shape hb with ⟨j, u, rfl, e⟩ | ⟨y, u, rfl, e⟩
      · exact nomatch e
      · injection e with e1 _; rw [e1]
  byValue := fun k v h => by
    rcases keyIs_shape h with ⟨i, t, rfl, rfl⟩ | ⟨x, t, rfl, rfl⟩ <;> rfl
  pyHash := fun hv h => by
    rcases keyIs_shape hv with ⟨i, t, rfl, rfl⟩ | ⟨x, t, rfl, rfl⟩
    · exact wpAny_pyHash_int h
    · exact wpAny_pyHash_str h
  eqBool := fun hu hv h => by
    rcases keyIs_shape hu with ⟨i, t, rfl, rfl⟩ | ⟨x, t, rfl, rfl⟩
    · rcases keyIs_shape hv with ⟨j, u, rfl, rfl⟩ | ⟨y, u, rfl, rfl⟩
      · rw [key_ll] at h; exact wpAny_eqBool_int h
      · rw [key_lr] at h; exact SeqAt.EqAt.int_str i t y u _ _ _ _ h
    · rcases keyIs_shape hv with ⟨j, u, rfl, rfl⟩ | ⟨y, u, rfl, rfl⟩
      · rw [key_rl] at h; exact SeqAt.EqAt.str_int x t j u _ _ _ _ h
      · rw [key_rr] at h; exact wpAny_eqBool_str h
  «strs» := fun k x t v h => by
    rcases keyIs_shape h with ⟨i, u, rfl, e⟩ | ⟨y, u, rfl, e⟩
    · exact nomatch e
    · injection e with e1 _
      subst e1
      cases v <;> rfl

theorem mixKind_is (prog : Program) (w : World) (k : Key) (v : Value) : (mixKind prog w).is k v = keyIs k v := rfl
theorem mixKind_int (prog : Program) (w : World) (i : Int) (t : Tok) : (mixKind prog w).is (.inl i) (.int i t) = true := keyIs_int i t
theorem mixKind_str (prog : Program) (w : World) (x : Str) (t : Tok) : (mixKind prog w).is (.inr x) (.str x t) = true := keyIs_str x t
end L2

namespace L2
open PySem PySem.Spec PyProof.Rows

/-- a value, without the heap -/
inductive V where
  | non | bl (b : Bool) | int (i : Int) | str (x : Str) | byt (b : Array UInt8) | flt (b : UInt64) | ref (a : Addr) | ty (n : String)
  deriving DecidableEq

def RelV : V → Value → Prop
  | .non, u => u = Value.none
  | .bl b, u => u = Value.bool b
  | .int i, u => ∃ t, u = Value.int i t
  | .str x, u => ∃ t, u = Value.str x t
  | .byt b, u => ∃ t, u = Value.bytes b t
  | .flt b, u => ∃ t, u = Value.float b t
  | .ref a, u => u = Value.ref a
  | .ty n, u => u = Value.type n

abbrev Vals : List V → List Value → Prop := Paired RelV
theorem Vals.length {xs : List V} {us : List Value} (r : Vals xs us) : xs.length = us.length := Paired.length r
theorem Vals.get : ∀ {xs : List V} {us : List Value} {i : Nat} {x : V}, Vals xs us → xs[i]? = some x → ∃ u, us[i]? = some u ∧ RelV x u
  | _, _, _, _, .nil, e => by simp at e
  | _, _, 0, _, .cons r _, e => by simp at e; subst e; exact ⟨_, rfl, r⟩
  | _, _, i + 1, x, .cons _ t, e => by
    obtain ⟨u, h1, h2⟩ := Vals.get (i := i) (x := x) t (by simpa using e)
    exact ⟨u, by simpa using h1, h2⟩
theorem Vals.set {x : V} {u : Value} (r : RelV x u) : ∀ {xs : List V} {us : List Value} (i : Nat), Vals xs us → Vals (xs.set i x) (us.set i u)
  | _, _, _, .nil => .nil
  | _, _, 0, .cons _ t => .cons r t
  | _, _, i + 1, .cons q t => .cons q (Vals.set r i t)
theorem Vals.append : ∀ {xs ys : List V} {us ws : List Value}, Vals xs us → Vals ys ws → Vals (xs ++ ys) (us ++ ws)
  | _, _, _, _, .nil, s => s
  | _, _, _, _, .cons r t, s => .cons r (Vals.append t s)
theorem Vals.take : ∀ {xs : List V} {us : List Value} (n : Nat), Vals xs us → Vals (xs.take n) (us.take n)
  | _, _, 0, _ => .nil
  | _, _, _ + 1, .nil => .nil
  | _, _, n + 1, .cons r t => .cons r (Vals.take n t)
theorem Vals.drop : ∀ {xs : List V} {us : List Value} (n : Nat), Vals xs us → Vals (xs.drop n) (us.drop n)
  | _, _, 0, r => r
  | _, _, _ + 1, .nil => .nil
  | _, _, n + 1, .cons _ t => Vals.drop n t
theorem Vals.none_of : ∀ {xs : List V} {us : List Value} {i : Nat}, Vals xs us → xs[i]? = none → us[i]? = none := fun {xs us i} r e => by
  have h1 := r.length
  have h2 : xs.length ≤ i := List.getElem?_eq_none_iff.mp e
  exact List.getElem?_eq_none_iff.mpr (by omega)

def RelO : Option V → Option Value → Prop
  | some v, some u => RelV v u
  | none, none => True
  | _, _ => False
def KV {κ : Type} : List (κ × V) → List (κ × Value) → Prop := Paired fun (p : κ × V) (q : κ × Value) => p.1 = q.1 ∧ RelV p.2 q.2

/-- a key of a dict (00_mix): an int or a text -/
def kV : Key → V
  | .inl i => .int i
  | .inr x => .str x

/-- what stands at a tracked address -/
inductive HO where
  /-- a list -/
  | lst (xs : List V)
  /-- a tuple (never changes) -/
  | tup (xs : List V)
  /-- a dict whose keys are ints and texts; one whose keys are tuples of ints and texts (the empty one is both) -/
  | dK (kvs : List (Key × V)) | dT (kvs : List (List Key × V))
  /-- a set of ints: its members, its size -/
  | set (S : Int → Bool) (n : Nat)
  /-- an instance of the class at C, its dict at dx, its attributes -/
  | ins (C dx : Addr) (fs : List (Str × V))
  /-- the dict of the instance at x -/
  | own (x : Addr)
  /-- the dict of an exception -/
  | xd (fs : List (Str × V))
  /-- a bound method, f of x -/
  | met (f x : Addr)
  /-- a range object lo, lo + 1, .. below hi -/
  | rng (lo hi : Int)
  /-- a thing that is known to the object (the script; a dict while a loop walks it): read, never written while it is so -/
  | frz (o : Obj) (u : HO)
  /-- a code object's table -/
  | tbl (ps : Array Value)
  /-- any other thing, by what is true of its one object (a def of one's own: SetO a S n := HO.ext fun h => ..) -/
  | ext (φ : Heap → Prop)

abbrev Hp := Addr → Option HO
def upd (H : Hp) (a : Addr) (o : HO) : Hp := fun b => if b = a then some o else H b
theorem upd_same {H : Hp} {a : Addr} {o : HO} : upd H a o a = some o := by unfold upd; rw [if_pos rfl]
theorem upd_ne {H : Hp} {a b : Addr} {o : HO} (h : b ≠ a) : upd H a o b = H b := by unfold upd; rw [if_neg h]
theorem upd_upd {H : Hp} {a : Addr} {o u : HO} : upd (upd H a o) a u = upd H a u := by
  funext b; unfold upd; split <;> rfl
/-- two objects of different content stand apart -/
theorem ne_of {H : Hp} {a b : Addr} {o u : HO} (h : H a = some o) (h' : H b = some u) (d : o ≠ u) : a ≠ b := by
  intro e; subst e; rw [h] at h'; exact d (Option.some.inj h')
theorem ne_of_none {H : Hp} {a b : Addr} {o : HO} (h : H a = some o) (h' : H b = none) : a ≠ b := by
  intro e; subst e; rw [h] at h'; cases h'

section
variable (P : Program) (w : World)
def ObjOk (H : Hp) (h : Heap) (a : Addr) : HO → Prop
  | .lst xs => xs.length ≤ sizeLine ∧ ∃ (its : List Value) (n : Nat), Vals xs its ∧ h.get? a = some { cls := .type "list", data := .seq its.toArray n }
  | .tup xs => xs.length ≤ sizeLine ∧ ∃ its : List Value, Vals xs its ∧ IsTup h a its.toArray
  | .dK kvs => kvs.length ≤ sizeLine ∧ (a == sysModules) = false ∧ ∃ vs, KV kvs vs ∧ h.DictOf (mixKind P w) a vs
  | .dT kvs => kvs.length ≤ sizeLine ∧ (a == sysModules) = false ∧ ∃ xs : List (List Key × Addr × Value),
      Paired (fun (p : List Key × V) (q : List Key × Addr × Value) => p.1 = q.1 ∧ H q.2.1 = some (.tup (p.1.map kV)) ∧ RelV p.2 q.2.2) kvs xs ∧
      ∃ o es ep, h.get? a = some o ∧ o.ExactDict ∧ o.data = .dict es ep ∧ es.toList = xs.map (entryOfKey (tupleKind (mixKind P w))) ∧ (xs.map (·.1)).Nodup
  | .set S n => h.SetOf (intKind P w) a S n
  | .ins C dx fs => H dx = some (.own a) ∧ fs.length ≤ 1000 ∧ dx ≠ a ∧ h.get? a = some (PySem.W.instObj C dx) ∧
      ∃ mA, h.Ns1 dx mA ∧ (∀ f, RelO (fs.lookup f) (mA f)) ∧ PySem.Within mA (fs.map (·.1))
  | .own _ => ∃ o, h.get? a = some o
  | .xd fs => ∃ mA, h.Ns1 a mA ∧ ∀ f, RelO (fs.lookup f) (mA f)
  | .rng lo hi => ∃ t u v, h.get? a = some { cls := .type "range", data := .fields #[.int lo t, .int hi u, .int 1 v] }
  | .frz o u => h.get? a = some o ∧ ObjOk H h a u
  | .tbl ps => h.get? a = some { cls := .none, data := .fields ps }
  | .met f x => h.get? a = some (PySem.W.methodObj (.ref f) (.ref x))
  | .ext φ => φ h ∧ (∃ o, h.get? a = some o) ∧ ∀ h1 h2 : Heap, φ h1 → (∀ o, h1.get? a = some o → h2.get? a = some o) → φ h2
/-- the abstract heap is held -/
def HOk (H : Hp) (h : Heap) : Prop := ∀ a o, H a = some o → ObjOk P w H h a o
end

section
variable {P : Program} {w : World} {H H' : Hp} {h h' : Heap} {a : Addr} {o : HO}
theorem ObjOk.lt (x : ObjOk P w H h a o) : a < h.objs.size := by
  cases o with
  | lst xs => obtain ⟨_, _, _, _, e⟩ := x; exact Heap.lt_size e
  | tup xs => obtain ⟨_, _, _, p⟩ := x; exact p.lt
  | dK kvs => obtain ⟨_, _, _, _, o, _, _, e, _⟩ := x; exact Heap.lt_size e
  | dT kvs => obtain ⟨_, _, _, _, o, _, _, e, _⟩ := x; exact Heap.lt_size e
  | set S n => obtain ⟨o, _, _, _, e, _⟩ := x; exact Heap.lt_size e
  | ins C dx fs => obtain ⟨_, _, _, e, _⟩ := x; exact Heap.lt_size e
  | own y => obtain ⟨_, e⟩ := x; exact Heap.lt_size e
  | xd fs => obtain ⟨_, ⟨_, _, _, e, _⟩, _⟩ := x; exact Heap.lt_size e
  | rng lo hi => obtain ⟨_, _, _, e⟩ := x; exact Heap.lt_size e
  | frz ob u => obtain ⟨e, _⟩ := x; exact Heap.lt_size e
  | tbl ps => exact Heap.lt_size (show h.get? a = some _ from x)
  | met f y => exact Heap.lt_size (show h.get? a = some _ from x)
  | ext φ => obtain ⟨_, ⟨_, e⟩, _⟩ := x; exact Heap.lt_size e
theorem Paired.mapP {α β : Type} {F G : α → β → Prop} : ∀ {l₁ : List α} {l₂ : List β}, Paired F l₁ l₂ → (∀ a b, F a b → G a b) → Paired G l₁ l₂
  | _, _, .nil, _ => .nil
  | _, _, .cons r t, f => .cons (f _ _ r) (Paired.mapP t f)
theorem Paired.imp' {α β : Type} {F G : α → β → Prop} (f : ∀ a b, F a b → G a b) {l₁ : List α} {l₂ : List β} (r : Paired F l₁ l₂) : Paired G l₁ l₂ := Paired.mapP r f
/-- what an object's description leans on: its own object, its own dict, the tuples -/
theorem ObjOk.stay (x : ObjOk P w H h a o) (k : ∀ b u, (b = a ∨ H b = some (.own a)) → h.get? b = some u → h'.get? b = some u)
    (ho : ∀ b, H b = some (.own a) → H' b = some (.own a)) (ht : ∀ b xs, H b = some (.tup xs) → H' b = some (.tup xs)) : ObjOk P w H' h' a o := by
  induction o with
  | lst xs => obtain ⟨z, its, n, r, e⟩ := x; exact ⟨z, its, n, r, k _ _ (.inl rfl) e⟩
  | tup xs => obtain ⟨z, its, r, ob, e, c⟩ := x; exact ⟨z, its, r, ob, k _ _ (.inl rfl) e, c⟩
  | dK kvs => obtain ⟨z, y, vs, r, ob, es, ep, e, c⟩ := x; exact ⟨z, y, vs, r, ob, es, ep, k _ _ (.inl rfl) e, c⟩
  | dT kvs =>
    obtain ⟨z, y, xs, r, ob, es, ep, e, c⟩ := x
    exact ⟨z, y, xs, Paired.mapP r fun p q z => ⟨z.1, ht _ _ z.2.1, z.2.2⟩, ob, es, ep, k _ _ (.inl rfl) e, c⟩
  | set S n => obtain ⟨ob, es, ep, t, e, c⟩ := x; exact ⟨ob, es, ep, t, k _ _ (.inl rfl) e, c⟩
  | ins C dx fs =>
    obtain ⟨d, z, ne, e, mA, ⟨od, es, ep, e2, c⟩, r⟩ := x
    exact ⟨ho _ d, z, ne, k _ _ (.inl rfl) e, mA, ⟨od, es, ep, k _ _ (.inr d) e2, c⟩, r⟩
  | own y => obtain ⟨ob, e⟩ := x; exact ⟨ob, k _ _ (.inl rfl) e⟩
  | xd fs => obtain ⟨mA, ⟨od, es, ep, e, c⟩, r⟩ := x; exact ⟨mA, ⟨od, es, ep, k _ _ (.inl rfl) e, c⟩, r⟩
  | rng lo hi => obtain ⟨t, u, v, e⟩ := x; exact ⟨t, u, v, k _ _ (.inl rfl) e⟩
  | frz ob u ih => obtain ⟨e, q⟩ := x; exact ⟨k _ _ (.inl rfl) e, ih q⟩
  | tbl ps =>
    have e : h.get? a = some { cls := .none, data := .fields ps } := x
    show h'.get? a = some { cls := .none, data := .fields ps }
    exact k a _ (.inl rfl) e
  | met f y =>
    have e : h.get? a = some (PySem.W.methodObj (.ref f) (.ref y)) := x
    show h'.get? a = some (PySem.W.methodObj (.ref f) (.ref y))
    exact k a _ (.inl rfl) e
  | ext φ => obtain ⟨p, ⟨o, e⟩, st⟩ := x; exact ⟨st _ _ p fun o q => k _ _ (.inl rfl) q, ⟨o, k _ _ (.inl rfl) e⟩, st⟩
theorem HOk.lt (x : HOk P w H h) (e : H a = some o) : a < h.objs.size := (x a o e).lt
theorem HOk.fresh (x : HOk P w H h) (e : h.objs.size ≤ a) : H a = none := by
  cases q : H a with
  | none => rfl
  | some u => exact absurd (Nat.lt_of_lt_of_le (x.lt q) e) (Nat.lt_irrefl _)
/-- every object of the heap is kept -/
theorem HOk.kept (x : HOk P w H h) (k : ∀ b u, h.get? b = some u → h'.get? b = some u) : HOk P w H h' := fun a o e =>
  (x a o e).stay (fun b u _ q => k b u q) (fun _ q => q) fun _ _ q => q
/-- a new object is laid and tracked -/
theorem HOk.laid (x : HOk P w H h) (k : ∀ b u, h.get? b = some u → h'.get? b = some u) (hp : h.objs.size ≤ a) (new : ObjOk P w (upd H a o) h' a o) : HOk P w (upd H a o) h' := fun b u e => by
  have hn := x.fresh hp
  by_cases hb : b = a
  · subst hb; rw [upd_same] at e; cases e; exact new
  · rw [upd_ne hb] at e
    exact (x b u e).stay (fun c v _ q => k c v q) (fun c q => by rw [upd_ne (ne_of_none q hn)]; exact q) fun c xs q => by rw [upd_ne (ne_of_none q hn)]; exact q
end

/-- what may be read as u: it is u, or a known u -/
def Rd (H : Hp) (a : Addr) (u : HO) : Prop := H a = some u ∨ ∃ o, H a = some (.frz o u)
theorem Rd.of {H : Hp} {a : Addr} {u : HO} (h : H a = some u) : Rd H a u := .inl h
theorem Rd.ok {P : Program} {w : World} {H : Hp} {h : Heap} {a : Addr} {u : HO} (r : Rd H a u) (x : HOk P w H h) : ObjOk P w H h a u := by
  rcases r with r | ⟨o, r⟩
  · exact x a u r
  · obtain ⟨_, q⟩ := x a _ r
    exact q
/-- what may be written -/
def Mut : Option HO → Prop
  | some (.lst _) => True
  | some (.dK _) => True
  | some (.dT _) => True
  | some (.set _ _) => True
  | some (.ins _ _ _) => True
  | some (.ext _) => True
  | _ => False
section
variable {P : Program} {w : World} {H : Hp} {h h' : Heap} {x e : Addr} {o' : HO}
/-- the object at e is changed: x itself, or the dict of the instance x -/
theorem HOk.write (ok : HOk P w H h) (mu : Mut (H x)) (he : e = x ∨ H e = some (.own x)) (k : ∀ b u, b ≠ e → h.get? b = some u → h'.get? b = some u) (heo : ∃ u, h'.get? e = some u)
    (new : ObjOk P w (upd H x o') h' x o') : HOk P w (upd H x o') h' := fun b u q => by
  have nown : ∀ c y, H c = some (.own y) → c ≠ x := fun c y r z => by subst z; rw [r] at mu; exact mu
  have ntup : ∀ c xs, H c = some (.tup xs) → c ≠ x := fun c xs r z => by subst z; rw [r] at mu; exact mu
  by_cases hb : b = x
  · subst hb; rw [upd_same] at q; cases q; exact new
  · rw [upd_ne hb] at q
    by_cases hbe : b = e
    · have q' : H b = some (.own x) := by
        rcases he with z | z
        · exact absurd (hbe.trans z) hb
        · rw [hbe]; exact z
      rw [q] at q'; cases q'
      obtain ⟨v, hv⟩ := heo
      exact ⟨v, by rw [hbe]; exact hv⟩
    · refine (ok b u q).stay (fun c v hc r => k c v ?_ r) (fun c r => by rw [upd_ne (nown c b r)]; exact r) fun c xs r => by rw [upd_ne (ntup c xs r)]; exact r
      rcases hc with rfl | hc
      · exact hbe
      · rintro rfl
        rcases he with z | z
        · exact nown c b hc z
        · rw [hc] at z; cases z; exact hb rfl
end

/-! ### kept unless tracked; of the frames at fs (the callers') the slots may change (an exception that passes writes there); of the records at ex (iterators) nothing is said -/
structure Un (fs ex : List Addr) (H H' : Hp) (h h' : Heap) : Prop where
  keep : ∀ b o, h.get? b = some o → H b = none → b ∉ fs → b ∉ ex → h'.get? b = some o
  slot : ∀ b o, h.get? b = some o → H b = none → b ∈ fs → b ∉ ex → ∃ sl, h'.get? b = some { o with slots := sl }
  free : ∀ b o, h.get? b = some o → H b = none → b ∉ ex → H' b = none
  there : ∀ b o, h.get? b = some o → b ∉ ex → ∃ o', h'.get? b = some o'
  tups : ∀ b xs, H b = some (.tup xs) → H' b = some (.tup xs)
  frzs : ∀ b o u, H b = some (.frz o u) → H' b = some (.frz o u)
  tbls : ∀ b ps, H b = some (.tbl ps) → ∃ more, H' b = some (.tbl (ps ++ more))
section
variable {fs fs' ex ex' : List Addr} {H H1 H2 : Hp} {h h1 h2 h' : Heap} {a x e : Addr} {o : HO}
theorem Un.any (u : Un fs ex H H1 h h1) {b : Addr} {ob : Obj} (q : h.get? b = some ob) (n : H b = none) (hx : b ∉ ex) : ∃ sl, h1.get? b = some { ob with slots := sl } := by
  by_cases hb : b ∈ fs
  · exact u.slot b ob q n hb hx
  · exact ⟨ob.slots, u.keep b ob q n hb hx⟩
theorem Un.trans (a : Un fs ex H H1 h h1) (b : Un fs ex H1 H2 h1 h2) : Un fs ex H H2 h h2 where
  keep := fun c ob q n hc hx => b.keep c ob (a.keep c ob q n hc hx) (a.free c ob q n hx) hc hx
  slot := fun c ob q n hc hx => by
    obtain ⟨sl, e1⟩ := a.slot c ob q n hc hx
    obtain ⟨sl', e2⟩ := b.slot c _ e1 (a.free c ob q n hx) hc hx
    exact ⟨sl', e2⟩
  free := fun c ob q n hx => by
    obtain ⟨o', e1⟩ := a.there c ob q hx
    exact b.free c o' e1 (a.free c ob q n hx) hx
  there := fun c ob q hx => by
    obtain ⟨o', e1⟩ := a.there c ob q hx
    exact b.there c o' e1 hx
  tups := fun c xs q => b.tups c xs (a.tups c xs q)
  frzs := fun c ob xs q => b.frzs c ob xs (a.frzs c ob xs q)
  tbls := fun c ps q => by
    obtain ⟨m1, e1⟩ := a.tbls c ps q
    obtain ⟨m2, e2⟩ := b.tbls c _ e1
    exact ⟨m1 ++ m2, by rw [e2, Array.append_assoc]⟩
theorem Un.kept (k : ∀ b u, h.get? b = some u → h'.get? b = some u) : Un fs ex H H h h' :=
  ⟨fun b ob q _ _ _ => k b ob q, fun b ob q _ _ _ => ⟨ob.slots, k b ob q⟩, fun _ _ _ n _ => n, fun b ob q _ => ⟨ob, k b ob q⟩, fun _ _ q => q, fun _ _ _ q => q, fun _ ps q => ⟨#[], by rw [q]; simp⟩⟩
theorem Un.refl : Un fs ex H H h h := Un.kept fun _ _ q => q
theorem Un.laid (k : ∀ b u, h.get? b = some u → h'.get? b = some u) (hp : h.objs.size ≤ a) (hn : H a = none) : Un fs ex H (upd H a o) h h' where
  keep := fun b u q _ _ _ => k b u q
  slot := fun b u q _ _ _ => ⟨u.slots, k b u q⟩
  free := fun b u q n _ => by rw [upd_ne (Nat.ne_of_lt (Nat.lt_of_lt_of_le (Heap.lt_size q) hp))]; exact n
  there := fun b u q _ => ⟨u, k b u q⟩
  tups := fun b xs q => by rw [upd_ne (ne_of_none q hn)]; exact q
  frzs := fun b u xs q => by rw [upd_ne (ne_of_none q hn)]; exact q
  tbls := fun b ps q => ⟨#[], by rw [upd_ne (ne_of_none q hn), q]; simp⟩
theorem Un.write (mu : Mut (H x)) (he : e = x ∨ H e = some (.own x)) (k : ∀ b u, b ≠ e → h.get? b = some u → h'.get? b = some u) (heo : ∃ u, h'.get? e = some u) : Un fs ex H (upd H x o) h h' := by
  have hx : ∀ b, H b = none → b ≠ x := fun b n z => by subst z; rw [n] at mu; exact mu
  have hb : ∀ b, H b = none → b ≠ e := fun b n z => by
    subst z
    rcases he with r | r
    · exact hx b n r
    · rw [n] at r; cases r
  have hm : ∀ b u, H b = some u → ¬ Mut (some u) → b ≠ x := fun b u q nm z => by subst z; rw [q] at mu; exact nm mu
  refine ⟨fun b u q n _ _ => k b u (hb b n) q, fun b u q n _ _ => ⟨u.slots, k b u (hb b n) q⟩, fun b u q n _ => by rw [upd_ne (hx b n)]; exact n, fun b u q _ => ?_,
    fun b xs q => by rw [upd_ne (hm b _ q fun z => z)]; exact q, fun b u xs q => by rw [upd_ne (hm b _ q fun z => z)]; exact q, fun b ps q => ⟨#[], by rw [upd_ne (hm b _ q fun z => z), q]; simp⟩⟩
  by_cases hbe : b = e
  · subst hbe; exact heo
  · exact ⟨u, k b u hbe q⟩
theorem Un.mono (u : Un fs ex H H1 h h1) (hs : ∀ b ∈ fs, b ∈ fs') (hx : ∀ b ∈ ex, b ∈ ex') : Un fs' ex' H H1 h h1 :=
  ⟨fun b ob q n hb he => u.keep b ob q n (fun z => hb (hs b z)) fun z => he (hx b z), fun _ _ q n _ he => u.any q n fun z => he (hx _ z), fun b ob q n he => u.free b ob q n fun z => he (hx b z), fun b ob q he => u.there b ob q fun z => he (hx b z), u.tups, u.frzs, u.tbls⟩
end

/-! ### the heap without what is tracked -/
def trk (h : Heap) (H : Hp) : List Addr := (List.range h.objs.size).filter fun a => (H a).isSome
def hidT (h : Heap) (H : Hp) : Heap := PySem.W.hideAll h (trk h H)
theorem hidT_size (h : Heap) (H : Hp) : (hidT h H).objs.size = h.objs.size := PySem.W.hideAll_size _ _
theorem hidT_get {h : Heap} {H : Hp} {b : Addr} {o : Obj} (e : h.get? b = some o) (n : H b = none) : (hidT h H).get? b = some o :=
  PySem.W.hideAll_get _ e fun hm => by
    have q : (H b).isSome = true := (List.mem_filter.mp hm).2
    rw [n] at q; simp at q
theorem of_hidT {h : Heap} {H : Hp} {b : Addr} {o : Obj} (e : (hidT h H).get? b = some o) : h.get? b = some o ∧ H b = none := by
  have e' : h.get? b = some o := PySem.W.of_hideAll (trk h H) e
  refine ⟨e', ?_⟩
  cases q : H b with
  | none => rfl
  | some x =>
    have hm : b ∈ trk h H := List.mem_filter.mpr ⟨List.mem_range.mpr (Heap.lt_size e'), by simp [q]⟩
    have z : (hidT h H).get? b = none := PySem.W.hideAll_none (trk h H) hm
    rw [z] at e; cases e

/-! ### OpenK's ledger, filled with every new object but one -/
def allNews (g h : Heap) (L : Addr) : List (Addr × Obj) := (List.range h.objs.size).filterMap fun a => if a = L ∨ (g.get? a).isSome = true then none else (h.get? a).map fun o => (a, o)
theorem mem_allNews {g h : Heap} {L a : Addr} {o : Obj} (h1 : a ≠ L) (h2 : g.get? a = none) (h3 : h.get? a = some o) : (a, o) ∈ allNews g h L :=
  List.mem_filterMap.mpr ⟨a, List.mem_range.mpr (Heap.lt_size h3), by simp [h1, h2, h3]⟩
theorem of_mem_allNews {g h : Heap} {L : Addr} {p : Addr × Obj} (hp : p ∈ allNews g h L) : p.1 ≠ L ∧ g.get? p.1 = none ∧ h.get? p.1 = some p.2 := by
  obtain ⟨b, _, e⟩ := List.mem_filterMap.mp hp
  split at e
  · cases e
  · rename_i hn
    cases q : h.get? b with
    | none => rw [q] at e; simp at e
    | some u =>
      rw [q] at e
      simp only [Option.map_some, Option.some.injEq] at e
      subst e
      refine ⟨fun z => hn (.inl z), ?_, q⟩
      show g.get? b = none
      cases r : g.get? b with
      | none => rfl
      | some v => exact (hn (.inr (by simp [r]))).elim
def rest (g h : Heap) (L d : Addr) : List (Addr × Obj) := (allNews g h L).filter fun p => decide (p.1 ≠ d)
theorem rest_ne {g h : Heap} {L d : Addr} : ∀ p ∈ rest g h L d, p.1 ≠ d := fun p hp => of_decide_eq_true (List.mem_filter.mp hp).2
theorem mem_rest {g h : Heap} {L d a : Addr} {o : Obj} (h1 : a ≠ L) (h2 : g.get? a = none) (h3 : h.get? a = some o) (h4 : a ≠ d) : (a, o) ∈ rest g h L d :=
  List.mem_filter.mpr ⟨mem_allNews h1 h2 h3, decide_eq_true h4⟩
theorem news_all {g h : Heap} {L : Addr} : News g L h (allNews g h L) := fun p hp => let ⟨a, b, c⟩ := of_mem_allNews hp; ⟨c, a, b⟩
theorem news_at {g h : Heap} {L d : Addr} {o : Obj} (h1 : d ≠ L) (h2 : g.get? d = none) (h3 : h.get? d = some o) : News g L h ((d, o) :: rest g h L d) := fun p hp => by
  rcases List.mem_cons.mp hp with rfl | hp
  · exact ⟨h3, h1, h2⟩
  · exact news_all p (List.mem_filter.mp hp).1
/-- behind a rule that changed d alone: all else but the frame is kept -/
theorem kept_of_news {g h h' : Heap} {L d : Addr} {m : Str → Option Value} (k : ∀ b o, g.get? b = some o → h.get? b = some o) (F : Fr g L h' m) (N : News g L h' (rest g h L d)) :
    ∀ b o, b ≠ L → b ≠ d → h.get? b = some o → h'.get? b = some o := fun b o h1 h2 e => by
  cases q : g.get? b with
  | some u =>
    have := k b u q
    rw [e] at this; cases this
    exact F.keep b _ q
  | none => exact (N (b, o) (mem_rest h1 q e h2)).1
end L2

namespace L2
open PySem PySem.Spec PyProof.Rows

/-- the module's facts, over the base: the heap at the law's entry without what is tracked there -/
structure Mod (K : PySem.W.Frag) (mg : Str → Option Value) (base : Heap) : Prop where
  kin : K.In base
  glob : base.Ns mainGlobals mg
  blt : ∃ mb, base.Ns builtinsNs mb ∧ ∀ x : Str, x ≠ "__name__" → mb x = bootBuiltins x
  nolimit : base.NoLimit

/-- the context: a def's body (or a comprehension's block) running. base: fixed through the whole law; s₀, H₀: the entry; outer: the frames whose slots others may change (a def's callers); stack: all frames that run;
   ex: iterators that were made ahead of the entry and are walked here (a comprehension's); fn: the names whose cells were made at the entry (a def: all; a comprehension's block: its own); calm: not within an except suite; pn: pins that every state bears; xe: what is wanted of an exception that leaves the code -/
structure Cx where
  prog : Program
  w : World
  K : PySem.W.Frag
  mg : Str → Option Value
  base : Heap
  A : Around
  N : List Str
  s₀ : Shared
  H₀ : Hp
  env : Env
  outer : List Env
  stack : List Env
  ex : List Addr
  fn : Str → Bool
  calm : Bool
  pn : List (Addr × Obj)
  xe : Value → Shared → Prop
/-- the callers' frames -/
def frs (l : List Env) : List Addr := l.filterMap (·.frame)
abbrev Cx.fs (X : Cx) : List Addr := frs X.outer

def Vis (sc : Scope) (x : Str) : Prop := sc.names.lookup x = some .local ∨ sc.names.lookup x = some .cell ∨ sc.names.lookup x = some .free
def Loc (sc : Scope) (x : Str) : Prop := sc.names.lookup x = some .local ∨ sc.names.lookup x = some .cell
def Look (env : Env) (h : Heap) (m : Str → Option Value) (x : Str) (u : Value) : Prop :=
  (env.kindOf x = some .local ∧ m x = some u) ∨ ((env.kindOf x = some .cell ∨ env.kindOf x = some .free) ∧ ∃ c, env.cells.lookup x = some c ∧ h.IsCell c (some u))

structure Cx.Ok (X : Cx) : Prop where
  mod : Mod X.K X.mg X.base
  kind : X.env.scope.kind = .function
  glob : X.env.globals = mainGlobals
  blt : X.env.builtins = builtinsNs
  above : X.s₀.heap.objs.size ≤ X.env.locals
  inj : ∀ x y c, X.env.cells.lookup x = some c → X.env.cells.lookup y = some c → x = y
  has : ∀ x, (X.env.kindOf x = some .cell ∨ X.env.kindOf x = some .free) → ∃ c, X.env.cells.lookup x = some c
  cab : ∀ x c, X.fn x = true → X.env.cells.lookup x = some c → X.s₀.heap.objs.size ≤ c
  hd : X.calm = true → X.A.handled = none
  frames : X.A.frames = some X.stack
  stk : X.stack = X.outer ∨ (X.stack = X.env :: X.outer ∧ X.env.frame = some X.env.locals)
  exf : ∀ b ∈ X.ex, b ≠ X.env.locals ∧ ∀ x c, X.env.cells.lookup x = some c → c ≠ b
  bs : ∀ b o, X.base.get? b = some o → X.s₀.heap.get? b = some o ∧ X.H₀ b = none
  bsz : X.base.objs.size ≤ X.s₀.heap.objs.size
  noex : ∀ b o, X.base.get? b = some o → b ∉ X.ex
  exfs : ∀ b ∈ X.ex, b ∉ X.fs
  funs : X.s₀.heap.FunFrames X.base X.outer
  frf : ∀ b ∈ X.fs, X.H₀ b = none

structure Inv (X : Cx) (pins : List (Addr × Obj)) (σ : List (Option V)) (H : Hp) (s : Shared) : Prop where
  ok : X.Ok
  os : s.os = X.s₀.os
  bare : AllBare s.gens
  base : Un X.fs X.ex X.H₀ H X.s₀.heap s.heap
  loc : ∃ m, s.heap.Ns X.env.locals m ∧ ∀ (i : Nat) (x : Str) (v : V), X.N[i]? = some x → σ[i]? = some (some v) → Vis X.env.scope x → ∃ u, RelV v u ∧ Look X.env s.heap m x u
  cell : ∀ x c, X.env.cells.lookup x = some c → ∃ v, s.heap.IsCell c v
  free : H X.env.locals = none
  freeC : ∀ x c, X.env.cells.lookup x = some c → H c = none
  pin : ∀ p ∈ X.pn ++ pins, s.heap.get? p.1 = some p.2 ∧ H p.1 = none ∧ p.1 ≠ X.env.locals ∧ p.1 ∉ X.fs ∧ ∀ v, p.2.data ≠ .cell v
  hok : HOk X.prog X.w H s.heap
  len : σ.length = X.N.length

section
variable {X : Cx} {pins : List (Addr × Obj)} {σ : List (Option V)} {H H' : Hp} {s : Shared} {h' : Heap}

theorem Cx.Ok.nofr (ok : X.Ok) {b : Addr} {o : Obj} (e : X.base.get? b = some o) : b ∉ X.fs := fun hb => by
  have := (ok.funs.mem hb).1
  rw [e] at this; cases this
theorem Inv.bs (I : Inv X pins σ H s) : ∀ b o, X.base.get? b = some o → s.heap.get? b = some o ∧ H b = none := fun b o e =>
  ⟨I.base.keep b o (I.ok.bs b o e).1 (I.ok.bs b o e).2 (I.ok.nofr e) (I.ok.noex b o e), I.base.free b o (I.ok.bs b o e).1 (I.ok.bs b o e).2 (I.ok.noex b o e)⟩
theorem Inv.bk (I : Inv X pins σ H s) : ∀ b o, X.base.get? b = some o → s.heap.get? b = some o := fun b o e => (I.bs b o e).1
theorem Inv.mod (I : Inv X pins σ H s) : Mod X.K X.mg X.base := I.ok.mod
theorem Inv.kIn (I : Inv X pins σ H s) : X.K.In s.heap := I.ok.mod.kin.keeps I.bk
theorem Inv.nolimit (I : Inv X pins σ H s) : s.heap.NoLimit := I.ok.mod.nolimit.keeps I.bk
/-- the frame over the base: for OpenK's rules (K.In X.base is I.mod.kin) -/
theorem Inv.fr (I : Inv X pins σ H s) : ∃ m, Fr X.base X.env.locals s.heap m :=
  let ⟨m, hn, _⟩ := I.loc
  ⟨m, hn, I.bk, Nat.le_trans I.ok.bsz I.ok.above⟩
theorem Inv.lt (I : Inv X pins σ H s) : X.env.locals < s.heap.objs.size := let ⟨_, hn, _⟩ := I.loc; hn.lt
theorem Inv.sz (I : Inv X pins σ H s) : X.s₀.heap.objs.size ≤ s.heap.objs.size := Nat.le_trans I.ok.above (Nat.le_of_lt I.lt)
theorem Inv.nofs (I : Inv X pins σ H s) {a : Addr} (h : s.heap.objs.size ≤ a) : a ∉ X.fs := fun hb => by
  obtain ⟨_, o, ho, _⟩ := I.ok.funs.mem hb
  exact absurd (Nat.lt_of_lt_of_le (Heap.lt_size ho) (Nat.le_trans I.sz h)) (Nat.lt_irrefl _)
theorem Inv.cne (I : Inv X pins σ H s) : ∀ x c, X.env.cells.lookup x = some c → c ≠ X.env.locals := fun x c e z => by
  obtain ⟨v, o, ho, hd⟩ := I.cell x c e
  obtain ⟨m, ⟨o', es, ep, ho', hd', _⟩, _⟩ := I.loc
  rw [z, ho'] at ho; cases ho; rw [hd'] at hd; cases hd
theorem Inv.funs (I : Inv X pins σ H s) : s.heap.FunFrames X.base X.outer := by
  have all : ∀ (l : List Env), (∀ b ∈ frs l, b ∈ X.fs) → X.s₀.heap.FunFrames X.base l → s.heap.FunFrames X.base l := by
    intro l
    induction l with
    | nil => intro _ _; trivial
    | cons env r ih =>
      intro hs hl
      obtain ⟨hk, ⟨L, o, hf, hn, ho, hd⟩, hr⟩ := hl
      have hL : L ∈ X.fs := hs L (by unfold frs; rw [List.filterMap_cons, hf]; exact List.mem_cons_self)
      obtain ⟨sl, e⟩ := I.base.slot L o ho (I.ok.frf L hL) hL fun z => I.ok.exfs L z hL
      exact ⟨hk, ⟨L, _, hf, hn, e, hd⟩, ih (fun b hb => hs b (by unfold frs; rw [List.filterMap_cons, hf]; exact List.mem_cons_of_mem _ hb)) hr⟩
  exact all X.outer (fun _ hb => hb) I.ok.funs

/-- the frames that run, for a call -/
theorem Inv.stack (I : Inv X pins σ H s) : s.heap.FunFrames X.base X.stack := by
  rcases I.ok.stk with e | ⟨e, hf⟩
  · rw [e]; exact I.funs
  · rw [e]
    obtain ⟨m, hn, _⟩ := I.loc
    refine .cons (by rw [I.ok.kind]; decide) hf hn ?_ I.funs
    exact Heap.get?_none_of_le (Nat.le_trans I.ok.bsz I.ok.above)
theorem Inv.stkSub (I : Inv X pins σ H s) : ∀ b ∈ frs X.stack, b ∈ X.env.locals :: X.fs := fun b hb => by
  rcases I.ok.stk with e | ⟨e, hf⟩
  · rw [e] at hb; exact List.mem_cons_of_mem _ hb
  · rw [e] at hb
    unfold frs at hb
    rw [List.filterMap_cons, hf] at hb
    exact hb
theorem Inv.stkFree (I : Inv X pins σ H s) : ∀ b ∈ frs X.stack, H b = none := fun b hb => by
  rcases List.mem_cons.mp (I.stkSub b hb) with e | hb
  · rw [e]; exact I.free
  · obtain ⟨_, o, ho, _⟩ := I.ok.funs.mem hb
    exact I.base.free b o ho (I.ok.frf b hb) fun z => I.ok.exfs b z hb

/-- THE STEP: the untracked objects but the frame and the records at ch are kept (the callers' frames up to slots), the frame's map is kept, the new abstract heap is held -/
theorem Inv.step {g' : Array GenState} {t' : Nat} {d' : Drawn} {ch : List Addr} (I : Inv X pins σ H s)
    (hch : ∀ b ∈ ch, (b ∈ X.ex ∨ X.s₀.heap.objs.size ≤ b) ∧ b ≠ X.env.locals ∧ (∀ x c, X.env.cells.lookup x = some c → c ≠ b) ∧ ∀ p ∈ X.pn ++ pins, p.1 ≠ b)
    (keep : ∀ b o, b ≠ X.env.locals → b ∉ X.fs → b ∉ ch → s.heap.get? b = some o → H b = none → h'.get? b = some o)
    (slot : ∀ b o, b ≠ X.env.locals → b ∈ X.fs → b ∉ ch → s.heap.get? b = some o → H b = none → ∃ sl, h'.get? b = some { o with slots := sl }) (free : ∀ b o, b ∉ ch → s.heap.get? b = some o → H b = none → H' b = none)
    (there : ∀ b o, b ∉ ch → s.heap.get? b = some o → ∃ o', h'.get? b = some o')
    (tups : ∀ b xs, H b = some (.tup xs) → H' b = some (.tup xs)) (frzs : ∀ b o u, H b = some (.frz o u) → H' b = some (.frz o u)) (tbls : ∀ b ps, H b = some (.tbl ps) → ∃ more, H' b = some (.tbl (ps ++ more)))
    (ns : ∀ m, s.heap.Ns X.env.locals m → h'.Ns X.env.locals m) (hok : HOk X.prog X.w H' h') (hg : AllBare g') :
    Inv X pins σ H' { s with heap := h', gens := g', drawn := d', toks := t' } := by
  have neL : ∀ b o, X.s₀.heap.get? b = some o → b ≠ X.env.locals := fun b o e => Nat.ne_of_lt (Nat.lt_of_lt_of_le (Heap.lt_size e) I.ok.above)
  have neC : ∀ b o, X.s₀.heap.get? b = some o → b ∉ X.ex → b ∉ ch := fun b o e hx hb => by
    rcases (hch b hb).1 with z | z
    · exact hx z
    · exact absurd (Nat.lt_of_lt_of_le (Heap.lt_size e) z) (Nat.lt_irrefl _)
  have cellK : ∀ x c, X.env.cells.lookup x = some c → ∀ v, s.heap.IsCell c v → h'.IsCell c v := fun x c e v ⟨o, ho, hd⟩ => by
    have nch : c ∉ ch := fun z => (hch c z).2.2.1 x c e rfl
    by_cases hc : c ∈ X.fs
    · obtain ⟨sl, q⟩ := slot c o (I.cne x c e) hc nch ho (I.freeC x c e)
      exact ⟨_, q, hd⟩
    · exact ⟨o, keep c o (I.cne x c e) hc nch ho (I.freeC x c e), hd⟩
  refine ⟨I.ok, I.os, hg, ⟨fun b o e n hb hx => ?_, fun b o e n hb hx => ?_, fun b o e n hx => ?_, fun b o e hx => ?_, fun b xs e => tups b xs (I.base.tups b xs e), fun b o xs e => frzs b o xs (I.base.frzs b o xs e), fun b ps e => ?_⟩, ?_, fun x c e => ?_, ?_, fun x c e => ?_, fun p hp => ?_, hok, I.len⟩
  · exact keep b o (neL b o e) hb (neC b o e hx) (I.base.keep b o e n hb hx) (I.base.free b o e n hx)
  · obtain ⟨sl, e1⟩ := I.base.slot b o e n hb hx
    obtain ⟨sl', e2⟩ := slot b _ (neL b o e) hb (neC b o e hx) e1 (I.base.free b o e n hx)
    exact ⟨sl', e2⟩
  · obtain ⟨o', e1⟩ := I.base.there b o e hx
    exact free b o' (neC b o e hx) e1 (I.base.free b o e n hx)
  · obtain ⟨o', e1⟩ := I.base.there b o e hx
    exact there b o' (neC b o e hx) e1
  · obtain ⟨m1, e1⟩ := I.base.tbls b ps e
    obtain ⟨m2, e2⟩ := tbls b _ e1
    exact ⟨m1 ++ m2, by rw [e2, Array.append_assoc]⟩
  · obtain ⟨m, hn, hl⟩ := I.loc
    refine ⟨m, ns m hn, fun i x v e1 e2 e3 => ?_⟩
    obtain ⟨u, r, l⟩ := hl i x v e1 e2 e3
    refine ⟨u, r, ?_⟩
    rcases l with l | ⟨k, c, e, z⟩
    · exact .inl l
    · exact .inr ⟨k, c, e, cellK x c e _ z⟩
  · obtain ⟨v, z⟩ := I.cell x c e
    exact ⟨v, cellK x c e v z⟩
  · obtain ⟨m, ⟨o, _, _, ho, _⟩, _⟩ := I.loc
    exact free _ o (fun z => (hch _ z).2.1 rfl) ho I.free
  · obtain ⟨v, o, ho, hd⟩ := I.cell x c e
    exact free c o (fun z => (hch c z).2.2.1 x c e rfl) ho (I.freeC x c e)
  · obtain ⟨e, n, ne, nf, d⟩ := I.pin p hp
    have nch : p.1 ∉ ch := fun z => (hch p.1 z).2.2.2 p hp rfl
    exact ⟨keep p.1 p.2 ne nf nch e n, free p.1 p.2 nch e n, ne, nf, d⟩
/-- .. where the frame's own object is kept too -/
theorem Inv.un {t' : Nat} (I : Inv X pins σ H s) (u : Un X.fs [] H H' s.heap h') (hok : HOk X.prog X.w H' h') : Inv X pins σ H' { s with heap := h', toks := t' } := by
  obtain ⟨m, ⟨o, es, ep, ho, r⟩, _⟩ := id I.loc
  obtain ⟨sl, hL⟩ := u.any ho I.free (by simp)
  exact I.step (g' := s.gens) (d' := s.drawn) (ch := []) (fun _ z => nomatch z) (fun b o _ hb _ e n => u.keep b o e n hb (by simp)) (fun b o _ hb _ e n => u.slot b o e n hb (by simp)) (fun b o _ e n => u.free b o e n (by simp)) (fun b o _ e => u.there b o e (by simp)) u.tups u.frzs u.tbls (fun m' hm => by
    obtain ⟨o', es', ep', ho', r'⟩ := hm
    rw [ho] at ho'; cases ho'
    exact ⟨_, es', ep', hL, r'⟩) hok I.bare
/-- behind a call (or a comprehension's block): the slots of this frame may have changed too, the records at ch may have turned -/
theorem Inv.call {g' : Array GenState} {t' : Nat} {d' : Drawn} {ch : List Addr} (I : Inv X pins σ H s) (u : Un (frs X.stack) ch H H' s.heap h') (hok : HOk X.prog X.w H' h') (hg : AllBare g')
    (hch : ∀ b ∈ ch, (b ∈ X.ex ∨ X.s₀.heap.objs.size ≤ b) ∧ b ≠ X.env.locals ∧ (∀ x c, X.env.cells.lookup x = some c → c ≠ b) ∧ ∀ p ∈ X.pn ++ pins, p.1 ≠ b) :
    Inv X pins σ H' { s with heap := h', gens := g', drawn := d', toks := t' } := by
  obtain ⟨m, ⟨o, es, ep, ho, r⟩, _⟩ := id I.loc
  obtain ⟨sl, hL⟩ := u.any ho I.free fun z => (hch _ z).2.1 rfl
  exact I.step (ch := ch) hch (fun b o hL hb hc e n => u.keep b o e n (fun z => (List.mem_cons.mp (I.stkSub b z)).elim hL hb) hc) (fun b o _ _ hc e n => u.any e n hc) (fun b o hc e n => u.free b o e n hc) (fun b o hc e => u.there b o e hc) u.tups u.frzs u.tbls (fun m' hm => by
    obtain ⟨o', es', ep', ho', r'⟩ := hm
    rw [ho] at ho'; cases ho'
    exact ⟨_, es', ep', hL, r'⟩) hok hg
/-- an untracked record of ours (an iterator) has turned -/
theorem Inv.turned {t' : Nat} {it : Addr} (I : Inv X pins σ H s) (k : ∀ b o, b ≠ it → s.heap.get? b = some o → h'.get? b = some o) (hn : H it = none) (hL : it ≠ X.env.locals)
    (h1 : it ∈ X.ex ∨ X.s₀.heap.objs.size ≤ it) (h2 : ∀ x c, X.env.cells.lookup x = some c → c ≠ it) (h3 : ∀ p ∈ X.pn ++ pins, p.1 ≠ it) : Inv X pins σ H { s with heap := h', toks := t' } := by
  have nit : ∀ b u, H b = some u → b ≠ it := fun b u e z => by rw [z, hn] at e; cases e
  refine I.step (g' := s.gens) (d' := s.drawn) (ch := [it]) (fun b hb => ?_) (fun b o _ _ hc e _ => k b o (fun z => hc (by simp [z])) e) (fun b o _ _ hc e _ => ⟨o.slots, k b o (fun z => hc (by simp [z])) e⟩) (fun _ _ _ _ n => n)
    (fun b o hc e => ⟨o, k b o (fun z => hc (by simp [z])) e⟩) (fun _ _ e => e) (fun _ _ _ e => e) (fun b ps e => ⟨#[], by rw [e]; simp⟩) (fun m hm => ?_) (fun b u e => ?_) I.bare
  · have e : b = it := by simpa using hb
    subst e
    exact ⟨h1, hL, h2, h3⟩
  · obtain ⟨o, es, ep, ho, r⟩ := hm
    exact ⟨o, es, ep, k _ o (Ne.symm hL) ho, r⟩
  · refine (I.hok b u e).stay (fun c v hc q => k c v ?_ q) (fun _ q => q) fun _ _ q => q
    rcases hc with z | z
    · rw [z]; exact nit b u e
    · exact nit c _ z
theorem Inv.tok (I : Inv X pins σ H s) (t : Nat) : Inv X pins σ H { s with toks := t } := I.un (h' := s.heap) (t' := t) Un.refl I.hok
/-- all objects kept -/
theorem Inv.kept {t' : Nat} (I : Inv X pins σ H s) (k : ∀ b u, s.heap.get? b = some u → h'.get? b = some u) : Inv X pins σ H { s with heap := h', toks := t' } := I.un (Un.kept k) (I.hok.kept k)
/-- a new object laid and tracked -/
theorem Inv.laid {a : Addr} {o : HO} {t' : Nat} (I : Inv X pins σ H s) (k : ∀ b u, s.heap.get? b = some u → h'.get? b = some u) (hp : s.heap.objs.size ≤ a) (new : ObjOk X.prog X.w (upd H a o) h' a o) :
    Inv X pins σ (upd H a o) { s with heap := h', toks := t' } := I.un (Un.laid k hp (I.hok.fresh hp)) (I.hok.laid k hp new)
/-- an object written -/
theorem Inv.write {x e : Addr} {o : HO} {t' : Nat} (I : Inv X pins σ H s) (mu : Mut (H x)) (he : e = x ∨ H e = some (.own x)) (k : ∀ b u, b ≠ e → s.heap.get? b = some u → h'.get? b = some u) (heo : ∃ u, h'.get? e = some u)
    (new : ObjOk X.prog X.w (upd H x o) h' x o) : Inv X pins σ (upd H x o) { s with heap := h', toks := t' } := I.un (Un.write mu he k heo) (I.hok.write mu he k heo new)
/-- forgetting slots, pins -/
theorem Inv.weak {σ' : List (Option V)} (I : Inv X pins σ H s) (hl : σ'.length = σ.length) (w : ∀ (i : Nat) v, σ'[i]? = some (some v) → σ[i]? = some (some v)) : Inv X pins σ' H s :=
  ⟨I.ok, I.os, I.bare, I.base, let ⟨m, hn, hl'⟩ := I.loc; ⟨m, hn, fun i x v e1 e2 e3 => hl' i x v e1 (w i v e2) e3⟩, I.cell, I.free, I.freeC, I.pin, I.hok, hl.trans I.len⟩
theorem Inv.pins_of {pins' : List (Addr × Obj)} (I : Inv X pins σ H s) (h : ∀ p ∈ pins', s.heap.get? p.1 = some p.2 ∧ H p.1 = none ∧ p.1 ≠ X.env.locals ∧ p.1 ∉ X.fs ∧ ∀ v, p.2.data ≠ .cell v) : Inv X pins' σ H s :=
  ⟨I.ok, I.os, I.bare, I.base, I.loc, I.cell, I.free, I.freeC, fun p hp => (List.mem_append.mp hp).elim (fun z => I.pin p (List.mem_append_left _ z)) (h p), I.hok, I.len⟩

theorem nodup_ix {N : List Str} (hN : N.Nodup) {i j : Nat} {x : Str} (a : N[i]? = some x) (b : N[j]? = some x) : i = j := by
  obtain ⟨h1, e1⟩ := List.getElem?_eq_some_iff.mp a
  obtain ⟨h2, e2⟩ := List.getElem?_eq_some_iff.mp b
  exact (List.getElem_inj hN).mp (e1.trans e2.symm)

/-- a name is stored; what changed -/
theorem store_ok2 {M : Model} {A : Around} {E : Value → Shared → Prop} {i : Nat} {x : Str} {v : V} {u : Value} {Q : Unit → Shared → Prop} (I : Inv X pins σ H s) (hN : X.N.Nodup) (hi : X.N[i]? = some x) (hx : Loc X.env.scope x) (r : RelV v u)
    (h : ∀ s', Inv X pins (σ.set i (some v)) H s' → (∃ a, Heap.SameBut a s.heap s'.heap ∧ (a = X.env.locals ∨ X.env.cells.lookup x = some a)) → Q () s') (hf : X.fn x = true ∨ X.env.scope.names.lookup x = some .local := by with_unfolding_all (first | exact .inl rfl | exact .inr rfl | assumption)) : wpAny M A (storeName X.env x u) Q E s := by
  obtain ⟨m, hn, hl⟩ := id I.loc
  have hcls : (X.env.scope.kind == .class || (X.env.scope.kind == .module && X.env.locals != X.env.globals)) = false := by rw [I.ok.kind]; rfl
  have hiσ : i < σ.length := by rw [I.len]; exact (List.getElem?_eq_some_iff.mp hi).1
  have cne := I.cne
  have tracked : ∀ {a : Addr} {h' : Heap}, (∃ o, s.heap.get? a = some o ∧ H a = none) → Heap.SameBut a s.heap h' → HOk X.prog X.w H h' := fun {a h'} ha hs b ob e => by
    obtain ⟨_, _, hfree⟩ := ha
    refine (I.hok b ob e).stay (fun c w' hc q => (hs.2 c ?_).trans q) (fun _ q => q) fun _ _ q => q
    rintro rfl
    rcases hc with rfl | hc
    · rw [hfree] at e; cases e
    · rw [hfree] at hc; cases hc
  rcases hx with hk | hk
  · refine wpAny_storeName_local hk hn (fun h' hn' hs => ?_) hcls
    obtain ⟨oL, _, _, hoL, _⟩ := id hn
    refine h _ ⟨I.ok, I.os, I.bare, ⟨fun b o e n hb hx => ?_, fun b o e n hb hx => ?_, I.base.free, fun b o e hx => ?_, I.base.tups, I.base.frzs, I.base.tbls⟩, ⟨_, hn', fun j y v' e1 e2 e3 => ?_⟩, fun y c e => ?_, I.free, I.freeC, fun p hp => ?_, tracked ⟨oL, hoL, I.free⟩ hs, by simpa using I.len⟩ ⟨_, hs, .inl rfl⟩
    · exact (hs.2 b (Nat.ne_of_lt (Nat.lt_of_lt_of_le (Heap.lt_size e) I.ok.above))).trans (I.base.keep b o e n hb hx)
    · obtain ⟨sl, e1⟩ := I.base.slot b o e n hb hx
      exact ⟨sl, (hs.2 b (Nat.ne_of_lt (Nat.lt_of_lt_of_le (Heap.lt_size e) I.ok.above))).trans e1⟩
    · obtain ⟨o', e1⟩ := I.base.there b o e hx
      exact ⟨o', (hs.2 b (Nat.ne_of_lt (Nat.lt_of_lt_of_le (Heap.lt_size e) I.ok.above))).trans e1⟩
    · by_cases hj : j = i
      · subst hj
        rw [hi] at e1; cases e1
        rw [List.getElem?_set_self hiσ] at e2
        cases e2
        exact ⟨u, r, .inl ⟨hk, by simp⟩⟩
      · rw [List.getElem?_set_ne (Ne.symm hj)] at e2
        obtain ⟨u', r', q⟩ := hl j y v' e1 e2 e3
        refine ⟨u', r', ?_⟩
        rcases q with ⟨k, e⟩ | ⟨k, c, e, z⟩
        · refine .inl ⟨k, ?_⟩
          have : y ≠ x := fun e => hj (nodup_ix hN e1 (e ▸ hi))
          simp [this, e]
        · exact .inr ⟨k, c, e, z.sameBut hs (cne y c e)⟩
    · obtain ⟨w', z⟩ := I.cell y c e
      exact ⟨w', z.sameBut hs (cne y c e)⟩
    · obtain ⟨e, n, ne, nf, d⟩ := I.pin p hp
      exact ⟨(hs.2 p.1 ne).trans e, n, ne, nf, d⟩
  · have hfn : X.fn x = true := by
      rcases hf with z | z
      · exact z
      · rw [z] at hk; cases hk
    obtain ⟨c, hc⟩ := I.ok.has x (.inl hk)
    obtain ⟨w', z⟩ := I.cell x c hc
    refine wpAny_storeName_cell I.ok.kind hk hc z (fun h' hc' hs => ?_)
    obtain ⟨oc, hoc, hocd⟩ := id z
    refine h { s with heap := h' } ⟨I.ok, I.os, I.bare, ⟨fun b o e n hb hx => ?_, fun b o e n hb hx => ?_, I.base.free, fun b o e hx => ?_, I.base.tups, I.base.frzs, I.base.tbls⟩, ⟨m, hn.sameBut hs (Ne.symm (cne x c hc)), fun j y v' e1 e2 e3 => ?_⟩, fun y c' e => ?_, I.free, I.freeC, fun p hp => ?_, tracked ⟨oc, hoc, I.freeC x c hc⟩ hs, by simpa using I.len⟩ ⟨c, hs, .inr hc⟩
    · exact (hs.2 b (Nat.ne_of_lt (Nat.lt_of_lt_of_le (Heap.lt_size e) (I.ok.cab x c hfn hc)))).trans (I.base.keep b o e n hb hx)
    · obtain ⟨sl, e1⟩ := I.base.slot b o e n hb hx
      exact ⟨sl, (hs.2 b (Nat.ne_of_lt (Nat.lt_of_lt_of_le (Heap.lt_size e) (I.ok.cab x c hfn hc)))).trans e1⟩
    · obtain ⟨o', e1⟩ := I.base.there b o e hx
      exact ⟨o', (hs.2 b (Nat.ne_of_lt (Nat.lt_of_lt_of_le (Heap.lt_size e) (I.ok.cab x c hfn hc)))).trans e1⟩
    · by_cases hj : j = i
      · subst hj
        rw [hi] at e1; cases e1
        rw [List.getElem?_set_self hiσ] at e2
        cases e2
        exact ⟨u, r, .inr ⟨.inl hk, c, hc, hc'⟩⟩
      · rw [List.getElem?_set_ne (Ne.symm hj)] at e2
        obtain ⟨u', r', q⟩ := hl j y v' e1 e2 e3
        refine ⟨u', r', ?_⟩
        rcases q with q | ⟨k, c', e, z'⟩
        · exact .inl q
        · refine .inr ⟨k, c', e, z'.sameBut hs ?_⟩
          rintro rfl
          exact hj (nodup_ix hN e1 (I.ok.inj _ _ _ e hc ▸ hi))
    · by_cases hcc : c' = c
      · subst hcc; exact ⟨_, hc'⟩
      · obtain ⟨w2, z2⟩ := I.cell y c' e
        exact ⟨w2, z2.sameBut hs hcc⟩
    · obtain ⟨e, n, ne, nf, d⟩ := I.pin p hp
      refine ⟨(hs.2 p.1 ?_).trans e, n, ne, nf, d⟩
      intro q
      rw [q, hoc] at e
      have q' : oc = p.2 := Option.some.inj e
      exact d w' (by rw [← q']; exact hocd)
theorem store_ok {M : Model} {A : Around} {E : Value → Shared → Prop} {i : Nat} {x : Str} {v : V} {u : Value} {Q : Unit → Shared → Prop} (I : Inv X pins σ H s) (hN : X.N.Nodup) (hi : X.N[i]? = some x) (hx : Loc X.env.scope x) (r : RelV v u)
    (h : ∀ s', Inv X pins (σ.set i (some v)) H s' → Q () s') (hf : X.fn x = true ∨ X.env.scope.names.lookup x = some .local := by with_unfolding_all (first | exact .inl rfl | exact .inr rfl | assumption)) : wpAny M A (storeName X.env x u) Q E s :=
  store_ok2 I hN hi hx r (fun s' I' _ => h s' I') hf
/-- behind a call or a block, the state as it is -/
theorem Inv.call' {s' : Shared} {ch : List Addr} (I : Inv X pins σ H s) (ho : s'.os = s.os) (u : Un (frs X.stack) ch H H' s.heap s'.heap) (hok : HOk X.prog X.w H' s'.heap) (hg : AllBare s'.gens)
    (hch : ∀ b ∈ ch, (b ∈ X.ex ∨ X.s₀.heap.objs.size ≤ b) ∧ b ≠ X.env.locals ∧ (∀ x c, X.env.cells.lookup x = some c → c ≠ b) ∧ ∀ p ∈ X.pn ++ pins, p.1 ≠ b) : Inv X pins σ H' s' := by
  obtain ⟨h', g', d', t', o'⟩ := s'
  have e : o' = s.os := ho
  subst e
  exact I.call (g' := g') (t' := t') (d' := d') u hok hg hch
end

/-! ### the judgements -/
/-- an exception: its class, its own dict's address (where it has one), the abstract heap behind it -/
abbrev XK := Value → Option Addr → Hp → Prop
abbrev St := List (Option V)
abbrev VK := V → Hp → Prop
/-- an expression's reading; a test's; an argument list's -/
abbrev TE := St → Hp → VK → Prop
abbrev TT := St → Hp → (Bool → Hp → Prop) → Prop
abbrev TA := St → Hp → (List V → Hp → Prop) → Prop
/-- what is wanted behind a statement -/
structure Ends where
  nx : St → Hp → Prop
  rt : VK
  bk : St → Hp → Prop := fun _ _ => False
  ct : St → Hp → Prop := fun _ _ => False
abbrev TS := Ends → St → Hp → Prop

def EP (X : Cx) (pins : List (Addr × Obj)) (σ : St) (Q : VK) (u : Value) (s' : Shared) : Prop := ∃ v H', Inv X pins σ H' s' ∧ RelV v u ∧ Q v H'
def TP (X : Cx) (pins : List (Addr × Obj)) (σ : St) (Q : Bool → Hp → Prop) (b : Bool) (s' : Shared) : Prop := ∃ H', Inv X pins σ H' s' ∧ Q b H'
def AP (X : Cx) (pins : List (Addr × Obj)) (σ : St) (Q : List V → Hp → Prop) (us : List Value) (s' : Shared) : Prop := ∃ vs H', Inv X pins σ H' s' ∧ Vals vs us ∧ Q vs H'
def SP (X : Cx) (pins : List (Addr × Obj)) (D : Ends) (f : Flow) (s' : Shared) : Prop :=
  match f with
  | .next => ∃ σ' H', Inv X pins σ' H' s' ∧ D.nx σ' H'
  | .brk => ∃ σ' H', Inv X pins σ' H' s' ∧ D.bk σ' H'
  | .cont => ∃ σ' H', Inv X pins σ' H' s' ∧ D.ct σ' H'
  | .ret u => ∃ v σ' H', Inv X pins σ' H' s' ∧ RelV v u ∧ D.rt v H'

def PE (X : Cx) (e : Expr) (t : TE) : Prop :=
  ∀ (pins : List (Addr × Obj)) (s : Shared) (σ : St) (H : Hp) (Q : VK), Inv X pins σ H s → t σ H Q → wpAny (model X.prog X.w) X.A (eval e X.env) (EP X pins σ Q) X.xe s
def PT (X : Cx) (e : Expr) (t : TT) : Prop :=
  ∀ (pins : List (Addr × Obj)) (s : Shared) (σ : St) (H : Hp) (Q : Bool → Hp → Prop), Inv X pins σ H s → t σ H Q → wpAny (model X.prog X.w) X.A (isTrue e X.env (eval e X.env)) (TP X pins σ Q) X.xe s
/-- a test whatever its 'whole' is (and, or) -/
def PW (X : Cx) (e : Expr) (t : TT) : Prop :=
  ∀ (whole : Sem Value) (pins : List (Addr × Obj)) (s : Shared) (σ : St) (H : Hp) (Q : Bool → Hp → Prop), Inv X pins σ H s → t σ H Q → wpAny (model X.prog X.w) X.A (isTrue e X.env whole) (TP X pins σ Q) X.xe s
theorem PW.pt {X : Cx} {e : Expr} {t : TT} (h : PW X e t) : PT X e t := h _
/-- an argument list (no star), from the left -/
def PA (X : Cx) (es : List Expr) (t : TA) : Prop :=
  ∀ (pos : Pos) (pins : List (Addr × Obj)) (s : Shared) (σ : St) (H : Hp) (Q : List V → Hp → Prop), Inv X pins σ H s → t σ H Q → wpAny (model X.prog X.w) X.A (spliced (backTo pos (starEach es X.env))) (AP X pins σ Q) X.xe s
def PS (X : Cx) (st : Stmt) (t : TS) : Prop :=
  ∀ (pins : List (Addr × Obj)) (s : Shared) (σ : St) (H : Hp) (D : Ends), Inv X pins σ H s → t D σ H → wpAny (model X.prog X.w) X.A (exec st X.env) (SP X pins D) X.xe s
def PSs (X : Cx) (st : List Stmt) (t : TS) : Prop :=
  ∀ (pins : List (Addr × Obj)) (s : Shared) (σ : St) (H : Hp) (D : Ends), Inv X pins σ H s → t D σ H → wpAny (model X.prog X.w) X.A (execs st X.env) (SP X pins D) X.xe s
/-- weaken the end -/
theorem thn {α : Type} {t : Sem α} {Q Q' : α → Shared → Prop} {M : Model} {A : Around} {E : Value → Shared → Prop} {s : Shared} (h : wpAny M A t Q E s) (hQ : ∀ a s, Q a s → Q' a s) : wpAny M A t Q' E s := wpAny_mono h hQ fun _ _ x => x
end L2

namespace L2
open PySem PySem.Spec PyProof.Rows
section
variable {X : Cx}

/-- two expressions in a row -/
theorem bin {a b : Expr} {ta tb : TE} (ha : PE X a ta) (hb : PE X b tb) {pins : List (Addr × Obj)} {s : Shared} {σ : St} {H : Hp} {R : V → V → Hp → Prop} (I : Inv X pins σ H s) (h : ta σ H fun x H1 => tb σ H1 fun y H2 => R x y H2)
    {α : Type} {Q : α → Shared → Prop} {f : Value → Value → Sem α}
    (hf : ∀ v u s2 x y H2, Inv X pins σ H2 s2 → RelV x v → RelV y u → R x y H2 → wpAny (model X.prog X.w) X.A (f v u) Q X.xe s2) :
    wpAny (model X.prog X.w) X.A (eval a X.env) (fun v s₁ => wpAny (model X.prog X.w) X.A (eval b X.env) (fun u s₂ => wpAny (model X.prog X.w) X.A (f v u) Q X.xe s₂) X.xe s₁) X.xe s := by
  refine thn (ha pins s σ H _ I h) fun v s1 ⟨x, H1, I1, r1, q1⟩ => ?_
  refine thn (hb pins s1 σ H1 _ I1 q1) fun u s2 ⟨y, H2, I2, r2, q2⟩ => ?_
  exact hf v u s2 x y H2 I2 r1 r2 q2

/-! ### names and constants -/
def tVar (i : Nat) : TE := fun σ H Q => ∃ v, σ[i]? = some (some v) ∧ Q v H
def tC (v : V) : TE := fun _ H Q => Q v H
theorem pe_var {i : Nat} {x : Str} {pos : Pos} (hN : X.N[i]? = some x) (hv : Vis X.env.scope x) (hd : (x == ("__debug__" : Str)) = false := by decide) (hcd : (x == ("__classdict__" : Str)) = false := by decide) : PE X (.Name x pos) (tVar i) := by
  intro pins s σ H Q I h
  obtain ⟨v, e, h⟩ := h
  obtain ⟨m, hn, hl⟩ := I.loc
  obtain ⟨u, r, l⟩ := hl i x v hN e hv
  have fin : EP X pins σ Q u s := ⟨v, H, I, r, h⟩
  rcases l with ⟨hk, hm⟩ | ⟨hk, c, hc, hcell⟩
  · exact wpAny_Name (wpAny_loadName_local I.ok.kind hk hn hm fin) hd
  · rcases hk with hk | hk
    · exact wpAny_Name (wpAny_loadName_cell I.ok.kind hk hc hcell fin) hd
    · exact wpAny_Name (wpAny_loadName_free I.ok.kind hk hc hcell fin hcd) hd
theorem pe_int {i j pos} : PE X (.Constant (.int i) j pos) (tC (.int i)) := fun _ _ _ H _ I h => wpAny_Constant_int ⟨.int i, H, I.tok _, ⟨_, rfl⟩, h⟩
theorem pe_bl {b j pos} : PE X (.Constant (.bool b) j pos) (tC (.bl b)) := fun _ _ _ H _ I h => Constant_bool ⟨.bl b, H, I, rfl, h⟩
theorem pe_non {j pos} : PE X (.Constant .none j pos) (tC .non) := fun _ _ _ H _ I h => Constant_none ⟨.non, H, I, rfl, h⟩
theorem pe_str {x j pos} : PE X (.Constant (.str x) j pos) (tC (.str x)) := fun _ _ _ H _ I h => Calls.Constant_str ⟨.str x, H, I.tok _, ⟨_, rfl⟩, h⟩

/-- a global name of the def -/
def Gl (X : Cx) (x : Str) : Prop := X.env.kindOf x = some .globalImplicit
theorem ld_glob {E : Value → Shared → Prop} {pins : List (Addr × Obj)} {s : Shared} {σ : St} {H : Hp} {x : Str} {u : Value} {pos : Pos} {Q : Value → Shared → Prop} (I : Inv X pins σ H s) (hg : Gl X x) (hm : X.mg x = some u) (h : Q u s)
    (hd : (x == ("__debug__" : Str)) = false := by decide) : wpAny (model X.prog X.w) X.A (eval (.Name x pos) X.env) Q E s :=
  Calls.Name_function_global I.ok.kind hg (Calls.loadGlobal_global (by rw [I.ok.glob]; exact I.mod.glob.keeps I.bk) hm h) hd
theorem ld_blt {E : Value → Shared → Prop} {pins : List (Addr × Obj)} {s : Shared} {σ : St} {H : Hp} {x : Str} {u : Value} {pos : Pos} {Q : Value → Shared → Prop} (I : Inv X pins σ H s) (hg : Gl X x) (hm : X.mg x = none) (hv : bootBuiltins x = some u) (h : Q u s)
    (hn : x ≠ "__name__" := by decide) (hd : (x == ("__debug__" : Str)) = false := by decide) : wpAny (model X.prog X.w) X.A (eval (.Name x pos) X.env) Q E s := by
  obtain ⟨mb, h1, h2⟩ := I.mod.blt
  exact Calls.Name_function_global I.ok.kind hg (Calls.loadGlobal_builtin (by rw [I.ok.glob]; exact I.mod.glob.keeps I.bk) hm (by rw [I.ok.blt]; exact h1.keeps I.bk) ((h2 x hn).trans hv) h) hd
/-- a module's constant, a class, a function, as a value -/
theorem pe_glob {x : Str} {v : V} {u : Value} {pos : Pos} (hg : Gl X x) (hm : X.mg x = some u) (r : RelV v u) (hd : (x == ("__debug__" : Str)) = false := by decide) : PE X (.Name x pos) (tC v) :=
  fun _ _ _ H _ I h => ld_glob I hg hm ⟨v, H, I, r, h⟩ hd
theorem pe_bltn {x : Str} {v : V} {u : Value} {pos : Pos} (hg : Gl X x) (hm : X.mg x = none) (hv : bootBuiltins x = some u) (r : RelV v u) (hn : x ≠ "__name__" := by decide) (hd : (x == ("__debug__" : Str)) = false := by decide) : PE X (.Name x pos) (tC v) :=
  fun _ _ _ H _ I h => ld_blt I hg hm hv ⟨v, H, I, r, h⟩ hn hd

/-! ### arithmetic -/
/-- two ints -/
def t2I (ta tb : TE) (k : Int → Int → Hp → Prop) : St → Hp → Prop := fun σ H => ta σ H fun x H1 => tb σ H1 fun y H2 => ∃ i j, x = .int i ∧ y = .int j ∧ k i j H2
def tAdd (ta tb : TE) : TE := fun σ H Q => t2I ta tb (fun i j H2 => Q (.int (i + j)) H2) σ H
def tSub (ta tb : TE) : TE := fun σ H Q => t2I ta tb (fun i j H2 => Q (.int (i - j)) H2) σ H
/-- the left factor below 2^64 -/
def tMul (ta tb : TE) : TE := fun σ H Q => t2I ta tb (fun i j H2 => (-(2 ^ 64) < i ∧ i < 2 ^ 64) ∧ Q (.int (i * j)) H2) σ H
variable {a b : Expr} {ta tb : TE} {pos : Pos}
theorem pe_add (ha : PE X a ta) (hb : PE X b tb) : PE X (.BinOp a .Add b pos) (tAdd ta tb) := by
  intro pins s σ H Q I h
  refine wpAny_BinOp (bin ha hb I h fun v u s2 x y H2 I2 rx ry q => ?_)
  obtain ⟨i, j, rfl, rfl, q⟩ := q
  obtain ⟨t, rfl⟩ := rx
  obtain ⟨t', rfl⟩ := ry
  exact add_int ⟨.int _, H2, I2.tok _, ⟨_, rfl⟩, q⟩
theorem pe_sub (ha : PE X a ta) (hb : PE X b tb) : PE X (.BinOp a .Sub b pos) (tSub ta tb) := by
  intro pins s σ H Q I h
  refine wpAny_BinOp (bin ha hb I h fun v u s2 x y H2 I2 rx ry q => ?_)
  obtain ⟨i, j, rfl, rfl, q⟩ := q
  obtain ⟨t, rfl⟩ := rx
  obtain ⟨t', rfl⟩ := ry
  exact sub_int ⟨.int _, H2, I2.tok _, ⟨_, rfl⟩, q⟩
theorem pe_mul (ha : PE X a ta) (hb : PE X b tb) : PE X (.BinOp a .Mult b pos) (tMul ta tb) := by
  intro pins s σ H Q I h
  refine wpAny_BinOp (bin ha hb I h fun v u s2 x y H2 I2 rx ry q => ?_)
  obtain ⟨i, j, rfl, rfl, ⟨q1, q2⟩, q⟩ := q
  obtain ⟨t, rfl⟩ := rx
  obtain ⟨t', rfl⟩ := ry
  exact mul_int ⟨.int _, H2, I2.tok _, ⟨_, rfl⟩, q⟩ (.of_left (intBits_le_64 q1 q2))

/-! ### comparisons -/
def PC (X : Cx) (op : CmpOp) (a b : Expr) (t : TE) : Prop :=
  ∀ (pins : List (Addr × Obj)) (s : Shared) (σ : St) (H : Hp) (Q : VK), Inv X pins σ H s → t σ H Q →
    wpAny (model X.prog X.w) X.A (eval a X.env) (fun v s₁ => wpAny (model X.prog X.w) X.A (eval b X.env) (fun u s₂ => wpAny (model X.prog X.w) X.A (compareOp op v u) (EP X pins σ Q) X.xe s₂) X.xe s₁) X.xe s
theorem nobehind (b : Expr) {op : CmpOp} (h : op ≠ .In) (h2 : op ≠ .NotIn) : behindInMarks op b = false := by
  have e1 : (op == CmpOp.In) = false := by cases op <;> first | rfl | exact absurd rfl h
  have e2 : (op == CmpOp.NotIn) = false := by cases op <;> first | rfl | exact absurd rfl h2
  cases b <;> simp [behindInMarks, e1, e2]
def tCmp (p : Int → Int → Bool) (ta tb : TE) : TE := fun σ H Q => t2I ta tb (fun i j H2 => Q (.bl (p i j)) H2) σ H
abbrev tLt : TE → TE → TE := tCmp fun i j => decide (i < j)
abbrev tLe : TE → TE → TE := tCmp fun i j => decide (i ≤ j)
abbrev tGt : TE → TE → TE := tCmp fun i j => decide (j < i)
abbrev tGe : TE → TE → TE := tCmp fun i j => decide (j ≤ i)
abbrev tEqI : TE → TE → TE := tCmp fun i j => decide (i = j)
abbrev tNeI : TE → TE → TE := tCmp fun i j => !decide (i = j)
/-- a comparison of two ints, by its rule -/
theorem pc_int {op : CmpOp} {p : Int → Int → Bool} (ha : PE X a ta) (hb : PE X b tb)
    (rule : ∀ (i j : Int) (t u : Tok) (Q : Value → Shared → Prop) (s : Shared), Q (.bool (p i j)) s → wpAny (model X.prog X.w) X.A (compareOp op (.int i t) (.int j u)) Q X.xe s) : PC X op a b (tCmp p ta tb) := by
  intro pins s σ H Q I h
  refine bin ha hb I h fun v u s2 x y H2 I2 rx ry q => ?_
  obtain ⟨i, j, rfl, rfl, q⟩ := q
  obtain ⟨t, rfl⟩ := rx
  obtain ⟨t', rfl⟩ := ry
  exact rule i j t t' _ s2 ⟨.bl _, H2, I2, rfl, q⟩
theorem pc_lt (ha : PE X a ta) (hb : PE X b tb) : PC X .Lt a b (tLt ta tb) := pc_int ha hb fun _ _ _ _ _ _ h => lt_int h
theorem pc_le (ha : PE X a ta) (hb : PE X b tb) : PC X .LtE a b (tLe ta tb) := pc_int ha hb fun _ _ _ _ _ _ h => le_int h
theorem pc_gt (ha : PE X a ta) (hb : PE X b tb) : PC X .Gt a b (tGt ta tb) := pc_int ha hb fun _ _ _ _ _ _ h => gt_int h
theorem pc_ge (ha : PE X a ta) (hb : PE X b tb) : PC X .GtE a b (tGe ta tb) := pc_int ha hb fun _ _ _ _ _ _ h => ge_int h
theorem pc_eqI (ha : PE X a ta) (hb : PE X b tb) : PC X .Eq a b (tEqI ta tb) := pc_int ha hb fun _ _ _ _ _ _ h => eq_int (by rw [Bool.beq_eq_decide_eq]; exact h)
theorem pc_neI (ha : PE X a ta) (hb : PE X b tb) : PC X .NotEq a b (tNeI ta tb) := pc_int ha hb fun _ _ _ _ _ _ h => ne_int (by rw [bne, Bool.beq_eq_decide_eq]; exact h)
/-- is None -/
def tIsN (ta : TE) : TE := fun σ H Q => ta σ H fun x H1 => Q (.bl (decide (x = .non))) H1
def tNotN (ta : TE) : TE := fun σ H Q => ta σ H fun x H1 => Q (.bl (!decide (x = .non))) H1
theorem RelV.none_iff {x : V} {v : Value} (r : RelV x v) : (v == Value.none) = decide (x = .non) := by
  cases x with
  | non => cases r; rfl
  | bl _ => cases r; rfl
  | int _ => obtain ⟨t, rfl⟩ := r; rfl
  | str _ => obtain ⟨t, rfl⟩ := r; rfl
  | byt _ => obtain ⟨t, rfl⟩ := r; rfl
  | flt _ => obtain ⟨t, rfl⟩ := r; rfl
  | ref _ => cases r; rfl
  | ty _ => cases r; rfl
theorem pc_isN {j pos'} (ha : PE X a ta) : PC X .Is a (.Constant .none j pos') (tIsN ta) := by
  intro pins s σ H Q I h
  refine thn (ha pins s σ H _ I h) fun v s1 ⟨x, H1, I1, r1, q1⟩ => ?_
  exact Constant_none (is_none_gen ⟨.bl _, H1, I1, by rw [r1.none_iff]; rfl, q1⟩)
theorem pc_notN {j pos'} (ha : PE X a ta) : PC X .IsNot a (.Constant .none j pos') (tNotN ta) := by
  intro pins s σ H Q I h
  refine thn (ha pins s σ H _ I h) fun v s1 ⟨x, H1, I1, r1, q1⟩ => ?_
  exact Constant_none (isnot_none_gen ⟨.bl _, H1, I1, by rw [r1.none_iff]; rfl, q1⟩)
/-- a comparison as a value, as a test -/
def tB (t : TE) : TT := fun σ H Q => t σ H fun x H1 => ∃ c, x = .bl c ∧ Q c H1
theorem pe_cmp {op : CmpOp} {t : TE} (h : PC X op a b t) (h1 : behindInMarks op b = false := by with_unfolding_all (first | exact nobehind _ (by decide) (by decide) | rfl)) : PE X (.Compare a [op] [b] pos) t := fun pins s σ H Q I hw => wpAny_Compare1 (h pins s σ H Q I hw) h1
theorem pt_cmp {op : CmpOp} {t : TE} (h : PC X op a b t) (h1 : behindInMarks op b = false := by with_unfolding_all (first | exact nobehind _ (by decide) (by decide) | rfl)) : PT X (.Compare a [op] [b] pos) (tB t) := by
  intro pins s σ H Q I hw
  refine wpAny_isTrue_Compare1 (thn (h pins s σ H _ I hw) fun v s1 h1 => thn h1 fun u s2 h2 => thn h2 fun c s3 ⟨x, H1, I1, r1, q1⟩ => ?_) h1
  obtain ⟨d, rfl, q⟩ := q1
  cases r1
  exact wpAny_truthy_bool ⟨H1, I1, q⟩
/-- an expression whose value is a bool, as a test -/
theorem pt_val {e : Expr} {t : TE} (h : PE X e t) (he : ∀ whole, isTrue e X.env whole = (do let v ← whole; standAt e.pos; holding [v] (truthy v)) := by with_unfolding_all (intro _; rfl)) : PT X e (tB t) := by
  intro pins s σ H Q I hw
  refine isTrue_plain (thn (h pins s σ H _ I hw) fun v s1 ⟨x, H1, I1, r1, q1⟩ => ?_) (he _)
  obtain ⟨d, rfl, q⟩ := q1
  cases r1
  exact wpAny_truthy_bool ⟨H1, I1, q⟩

/-! ### and, or, not -/
variable {tA tB' : TT} {rest : List Expr}
def tAnd (t u : TT) : TT := fun σ H Q => t σ H fun c H1 => if c = true then u σ H1 Q else Q false H1
def tOr (t u : TT) : TT := fun σ H Q => t σ H fun c H1 => if c = true then Q true H1 else u σ H1 Q
def tNot (t : TT) : TT := fun σ H Q => t σ H fun c H1 => Q (!c) H1
theorem pw_and1 (ha : PT X a tA) : PW X (.BoolOp .And [a] pos) tA := by
  intro wh pins s σ H Q I h
  refine isTrue_and (thn (ha pins s σ H Q I h) fun c s1 e => ?_)
  cases c with
  | true => exact isTrue_and_nil e
  | false => exact e
theorem pw_or1 (ha : PT X a tA) : PW X (.BoolOp .Or [a] pos) tA := by
  intro wh pins s σ H Q I h
  refine isTrue_or (thn (ha pins s σ H Q I h) fun c s1 e => ?_)
  cases c with
  | false => exact isTrue_or_nil e
  | true => exact e
theorem pw_and (ha : PT X a tA) (hb : PW X (.BoolOp .And (b :: rest) pos) tB') : PW X (.BoolOp .And (a :: b :: rest) pos) (tAnd tA tB') := by
  intro wh pins s σ H Q I h
  refine isTrue_and (thn (ha pins s σ H _ I h) fun c s1 ⟨H1, I1, q1⟩ => ?_)
  cases c with
  | true => exact hb wh pins s1 σ H1 Q I1 q1
  | false => exact ⟨H1, I1, q1⟩
theorem pw_or (ha : PT X a tA) (hb : PW X (.BoolOp .Or (b :: rest) pos) tB') : PW X (.BoolOp .Or (a :: b :: rest) pos) (tOr tA tB') := by
  intro wh pins s σ H Q I h
  refine isTrue_or (thn (ha pins s σ H _ I h) fun c s1 ⟨H1, I1, q1⟩ => ?_)
  cases c with
  | true => exact ⟨H1, I1, q1⟩
  | false => exact hb wh pins s1 σ H1 Q I1 q1
theorem pt_not (ha : PT X a tA) : PT X (.UnaryOp .Not a pos) (tNot tA) := by
  intro pins s σ H Q I h
  exact isTrue_not (ha pins s σ H (fun c H1 => Q (!c) H1) I h)
/-- .. as values (bools) -/
def tAndV (ta tb : TE) : TE := fun σ H Q => ta σ H fun x H1 => ∃ c, x = .bl c ∧ if c = true then tb σ H1 Q else Q (.bl false) H1
def tOrV (ta tb : TE) : TE := fun σ H Q => ta σ H fun x H1 => ∃ c, x = .bl c ∧ if c = true then Q (.bl true) H1 else tb σ H1 Q
def tNotV (ta : TE) : TE := fun σ H Q => ta σ H fun x H1 => ∃ c, x = .bl c ∧ Q (.bl (!c)) H1
theorem pe_one {op} {t : TE} (h : PE X a t) : PE X (.BoolOp op [a] pos) t := fun pins s σ H Q I hw => BoolOp_one (h pins s σ H Q I hw)
theorem pe_and (ha : PE X a ta) (hb : PE X (.BoolOp .And (b :: rest) pos) tb) : PE X (.BoolOp .And (a :: b :: rest) pos) (tAndV ta tb) := by
  intro pins s σ H Q I h
  refine BoolOp_and (thn (ha pins s σ H _ I h) fun v s1 ⟨x, H1, I1, r1, q1⟩ => ?_)
  obtain ⟨c, rfl, q1⟩ := q1
  cases r1
  refine wpAny_truthy_bool ?_
  cases c with
  | true => exact hb pins s1 σ H1 Q I1 q1
  | false => exact ⟨.bl false, H1, I1, rfl, q1⟩
theorem pe_or (ha : PE X a ta) (hb : PE X (.BoolOp .Or (b :: rest) pos) tb) : PE X (.BoolOp .Or (a :: b :: rest) pos) (tOrV ta tb) := by
  intro pins s σ H Q I h
  refine BoolOp_or (thn (ha pins s σ H _ I h) fun v s1 ⟨x, H1, I1, r1, q1⟩ => ?_)
  obtain ⟨c, rfl, q1⟩ := q1
  cases r1
  refine wpAny_truthy_bool ?_
  cases c with
  | false => exact hb pins s1 σ H1 Q I1 q1
  | true => exact ⟨.bl true, H1, I1, rfl, q1⟩
theorem pe_not (ha : PE X a ta) : PE X (.UnaryOp .Not a pos) (tNotV ta) := by
  intro pins s σ H Q I h
  refine UnaryOp_ (thn (ha pins s σ H _ I h) fun v s1 ⟨x, H1, I1, r1, q1⟩ => ?_)
  obtain ⟨c, rfl, q1⟩ := q1
  cases r1
  exact not_of (wpAny_truthy_bool ⟨.bl (!c), H1, I1, rfl, q1⟩)
/-- a if t else b -/
def tIf (t : TT) (ta tb : TE) : TE := fun σ H Q => t σ H fun c H1 => if c = true then ta σ H1 Q else tb σ H1 Q
theorem pe_ifExp {c : Expr} (hc : PT X c tA) (ha : PE X a ta) (hb : PE X b tb) : PE X (.IfExp c a b pos) (tIf tA ta tb) := by
  intro pins s σ H Q I h
  refine wpAny_IfExp (thn (hc pins s σ H _ I h) fun d s1 ⟨H1, I1, q1⟩ => ?_)
  cases d with
  | true => exact ha pins s1 σ H1 Q I1 q1
  | false => exact hb pins s1 σ H1 Q I1 q1
end
end L2

namespace L2
open PySem PySem.Spec PyProof.Rows

/-! ### a list, a tuple that is read: tracked, frozen, or an object of the module -/
def SqL (K : PySem.W.Frag) (H : Hp) (a : Addr) (xs : List V) : Prop :=
  Rd H a (.lst xs) ∨
    ∃ (o : Obj) (its : Array Value) (n : Nat), K.lookup a = some o ∧ o.cls = .type "list" ∧ o.dict = none ∧ o.data = .seq its n ∧ its.size ≤ sizeLine ∧ Vals xs its.toList
def SqT (K : PySem.W.Frag) (H : Hp) (a : Addr) (xs : List V) : Prop :=
  Rd H a (.tup xs) ∨
    ∃ (o : Obj) (its : Array Value) (n : Nat), K.lookup a = some o ∧ o.cls = .type "tuple" ∧ o.data = .seq its n ∧ its.size ≤ sizeLine ∧ Vals xs its.toList
def absV : Value → Option V
  | .none => some .non
  | .bool b => some (.bl b)
  | .int i _ => some (.int i)
  | .str x _ => some (.str x)
  | .bytes b _ => some (.byt b)
  | .float b _ => some (.flt b)
  | .ref a => some (.ref a)
  | .type n => some (.ty n)
  | _ => none
theorem RelV.abs {x : V} {u : Value} (r : RelV x u) : absV u = some x := by
  cases x with
  | non => cases r; rfl
  | bl _ => cases r; rfl
  | int _ => obtain ⟨t, rfl⟩ := r; rfl
  | str _ => obtain ⟨t, rfl⟩ := r; rfl
  | byt _ => obtain ⟨t, rfl⟩ := r; rfl
  | flt _ => obtain ⟨t, rfl⟩ := r; rfl
  | ref _ => cases r; rfl
  | ty _ => cases r; rfl
theorem RelV.inj {x y : V} {u : Value} (r : RelV x u) (q : RelV y u) : x = y := Option.some.inj (r.abs.symm.trans q.abs)
theorem Vals.inj : ∀ {xs ys : List V} {us : List Value}, Vals xs us → Vals ys us → xs = ys
  | _, _, _, .nil, .nil => rfl
  | _, _, _, .cons r t, .cons r' t' => by rw [r.inj r', Vals.inj t t']
section
variable {X : Cx} {pins : List (Addr × Obj)} {σ : St} {H : Hp} {s : Shared} {a : Addr} {xs ys : List V}
theorem SqL.of {K : PySem.W.Frag} (h : H a = some (.lst xs)) : SqL K H a xs := .inl (.inl h)
theorem SqT.of {K : PySem.W.Frag} (h : H a = some (.tup xs)) : SqT K H a xs := .inl (.inl h)
theorem Inv.list (I : Inv X pins σ H s) (h : SqL X.K H a xs) : ∃ its : List Value, Vals xs its ∧ PlainL s.heap a its.toArray ∧ xs.length ≤ sizeLine := by
  rcases h with h | ⟨o, its, n, hk, hc, hd, hs, hz, r⟩
  · obtain ⟨z, its, n, r, e⟩ := h.ok I.hok
    exact ⟨its, r, ⟨_, n, e, rfl, rfl, rfl⟩, z⟩
  · refine ⟨its.toList, r, ⟨o, n, I.kIn a o hk, hc, hd, by simpa using hs⟩, ?_⟩
    have e := r.length
    simp only [Array.length_toList] at e
    omega
theorem Inv.tuple (I : Inv X pins σ H s) (h : SqT X.K H a xs) : ∃ its : List Value, Vals xs its ∧ IsTup s.heap a its.toArray ∧ xs.length ≤ sizeLine := by
  rcases h with h | ⟨o, its, n, hk, hc, hs, hz, r⟩
  · obtain ⟨z, its, r, p⟩ := h.ok I.hok
    exact ⟨its, r, p, z⟩
  · refine ⟨its.toList, r, ⟨o, I.kIn a o hk, hc, n, by simpa using hs⟩, ?_⟩
    have e := r.length
    simp only [Array.length_toList] at e
    omega
theorem Inv.list_inj (I : Inv X pins σ H s) (h : SqL X.K H a xs) (h' : SqL X.K H a ys) : xs = ys := by
  obtain ⟨its, r, ⟨o, n, e, _, _, d⟩, _⟩ := I.list h
  obtain ⟨its', r', ⟨o', n', e', _, _, d'⟩, _⟩ := I.list h'
  rw [e] at e'; cases e'
  rw [d] at d'
  injection d' with d1 _
  have : its = its' := by simpa using congrArg Array.toList d1
  subst this
  exact r.inj r'
theorem Inv.tuple_inj (I : Inv X pins σ H s) (h : SqT X.K H a xs) (h' : SqT X.K H a ys) : xs = ys := by
  obtain ⟨its, r, ⟨o, e, _, n, d⟩, _⟩ := I.tuple h
  obtain ⟨its', r', ⟨o', e', _, n', d'⟩, _⟩ := I.tuple h'
  rw [e] at e'; cases e'
  rw [d] at d'
  injection d' with d1 _
  have : its = its' := by simpa using congrArg Array.toList d1
  subst this
  exact r.inj r'
end

/-! ### another wish about exceptions -/
abbrev Cx.wish (X : Cx) (E : Value → Shared → Prop) : Cx := { X with xe := E }
/-- no exception leaves -/
abbrev Cx.nox (X : Cx) : Cx := X.wish fun _ _ => False
theorem Cx.Ok.wish {X : Cx} (ok : X.Ok) (E : Value → Shared → Prop) : (X.wish E).Ok :=
  ⟨ok.mod, ok.kind, ok.glob, ok.blt, ok.above, ok.inj, ok.has, ok.cab, ok.hd, ok.frames, ok.stk, ok.exf, ok.bs, ok.bsz, ok.noex, ok.exfs, ok.funs, ok.frf⟩
theorem Cx.Ok.unwish {X : Cx} {E : Value → Shared → Prop} (ok : (X.wish E).Ok) : X.Ok :=
  ⟨ok.mod, ok.kind, ok.glob, ok.blt, ok.above, ok.inj, ok.has, ok.cab, ok.hd, ok.frames, ok.stk, ok.exf, ok.bs, ok.bsz, ok.noex, ok.exfs, ok.funs, ok.frf⟩
section
variable {X : Cx} {pins : List (Addr × Obj)} {σ : St} {H : Hp} {s : Shared} {E : Value → Shared → Prop}
theorem Inv.wish (I : Inv X pins σ H s) (E : Value → Shared → Prop) : Inv (X.wish E) pins σ H s := ⟨I.ok.wish E, I.os, I.bare, I.base, I.loc, I.cell, I.free, I.freeC, I.pin, I.hok, I.len⟩
theorem Inv.unwish (I : Inv (X.wish E) pins σ H s) : Inv X pins σ H s := ⟨I.ok.unwish, I.os, I.bare, I.base, I.loc, I.cell, I.free, I.freeC, I.pin, I.hok, I.len⟩
theorem SP.unwish {D : Ends} {f : Flow} {s' : Shared} (h : SP (X.wish E) pins D f s') : SP X pins D f s' := by
  cases f with
  | next => obtain ⟨σ', H', I, q⟩ := h; exact ⟨σ', H', I.unwish, q⟩
  | brk => obtain ⟨σ', H', I, q⟩ := h; exact ⟨σ', H', I.unwish, q⟩
  | cont => obtain ⟨σ', H', I, q⟩ := h; exact ⟨σ', H', I.unwish, q⟩
  | ret u => obtain ⟨v, σ', H', I, r, q⟩ := h; exact ⟨v, σ', H', I.unwish, r, q⟩
theorem PE.nox {e : Expr} {t : TE} (h : PE X.nox e t) : PE X e t := fun pins s σ H Q I hw =>
  wpAny_mono (h pins s σ H Q (I.wish _) hw) (fun _ _ ⟨v, H', I', r, q⟩ => ⟨v, H', I'.unwish, r, q⟩) fun _ _ z => False.elim z
theorem PT.nox {e : Expr} {t : TT} (h : PT X.nox e t) : PT X e t := fun pins s σ H Q I hw =>
  wpAny_mono (h pins s σ H Q (I.wish _) hw) (fun _ _ ⟨H', I', q⟩ => ⟨H', I'.unwish, q⟩) fun _ _ z => False.elim z
theorem PSs.nox {st : List Stmt} {t : TS} (h : PSs X.nox st t) : PSs X st t := fun pins s σ H D I hw =>
  wpAny_mono (h pins s σ H D (I.wish _) hw) (fun _ _ q => q.unwish) fun _ _ z => False.elim z
end

/-! ### blocks and small statements -/
section
variable {X : Cx} {st : Stmt} {rest : List Stmt} {t u : TS} {e : Expr} {te : TE} {pos : Pos}
def tNext : TS := fun D σ H => D.nx σ H
def tSeq (t u : TS) : TS := fun D σ H => t { D with nx := u D } σ H
theorem pss_nil : PSs X [] tNext := fun _ _ σ H _ I h => wpAny_execs_nil ⟨σ, H, I, h⟩
theorem pss_cons (h1 : PS X st t) (h2 : PSs X rest u) : PSs X (st :: rest) (tSeq t u) := by
  intro pins s σ H D I h
  refine wpAny_execs_cons (thn (h1 pins s σ H { D with nx := u D } I h) fun f s1 q => ?_)
  cases f with
  | next =>
    obtain ⟨σ', H', I', q⟩ := q
    exact h2 pins s1 σ' H' D I' q
  | ret v => exact q
  | brk => exact q
  | cont => exact q
theorem pss_one (h1 : PS X st t) : PSs X [st] t := by
  intro pins s σ H D I h
  refine wpAny_execs_cons (thn (h1 pins s σ H D I h) fun f s1 q => ?_)
  cases f with
  | next => exact wpAny_execs_nil q
  | ret v => exact q
  | brk => exact q
  | cont => exact q
def tBreak : TS := fun D σ H => D.bk σ H
def tCont : TS := fun D σ H => D.ct σ H
theorem ps_pass : PS X (.Pass pos) tNext := fun _ _ σ H _ I h => wpAny_Pass ⟨σ, H, I, h⟩
theorem ps_break : PS X (.Break pos) tBreak := fun _ _ σ H _ I h => wpAny_Break ⟨σ, H, I, h⟩
theorem ps_continue : PS X (.Continue pos) tCont := fun _ _ σ H _ I h => wpAny_Continue ⟨σ, H, I, h⟩
/-- in a def's body nothing is shown -/
theorem Inv.quiet {pins : List (Addr × Obj)} {σ : St} {H : Hp} {s : Shared} (I : Inv X pins σ H s) : interactive X.env = false := by simp [interactive, I.ok.kind]
/-- a docstring -/
theorem ps_doc {x j pos pos'} : PS X (.Expr (.Constant (.str x) j pos) pos') tNext := fun _ s σ H _ I h => wpAny_Expr (Calls.Constant_str (show SP X _ _ .next { s with toks := s.toks + 1 } from ⟨σ, H, I.tok _, h⟩)) I.quiet
/-- an expression whose value is dropped -/
def tDrop (te : TE) : TS := fun D σ H => te σ H fun _ H1 => D.nx σ H1
theorem ps_expr (he : PE X e te) (hs : swapsWith e none pos.line X.env = pure false := by with_unfolding_all rfl) : PS X (.Expr e pos) (tDrop te) := by
  intro pins s σ H D I h
  exact wpAny_Expr_any (thn (he pins s σ H _ I h) fun v s1 ⟨x, H1, I1, r1, q1⟩ => ⟨σ, H1, I1, q1⟩) I.quiet hs
def tRet (te : TE) : TS := fun D σ H => te σ H D.rt
theorem ps_ret (he : PE X e te) : PS X (.Return (some e) pos) (tRet te) := by
  intro pins s σ H D I h
  exact wpAny_Return_some (thn (he pins s σ H _ I h) fun v s1 ⟨x, H1, I1, r1, q1⟩ => ⟨x, σ, H1, I1, r1, q1⟩)
def tRetN : TS := fun D _ H => D.rt .non H
theorem ps_retN : PS X (.Return none pos) tRetN := fun _ _ σ H _ I h => wpAny_Return_none ⟨.non, σ, H, I, rfl, h⟩
def tIfS (c : TT) (t u : TS) : TS := fun D σ H => c σ H fun b H1 => if b = true then t D σ H1 else u D σ H1
theorem ps_if {c : Expr} {a b : List Stmt} {tc : TT} (hc : PT X c tc) (ha : PSs X a t) (hb : PSs X b u) : PS X (.If c a b pos) (tIfS tc t u) := by
  intro pins s σ H D I h
  refine wpAny_If (thn (hc pins s σ H _ I h) fun d s1 ⟨H1, I1, q1⟩ => ?_)
  cases d with
  | true => exact ha pins s1 σ H1 D I1 q1
  | false => exact hb pins s1 σ H1 D I1 q1
/-- code that the proof never comes to -/
def tNever : TS := fun _ _ _ => False
theorem ps_never : PS X st tNever := fun _ _ _ _ _ _ h => h.elim
theorem pss_never {sts : List Stmt} : PSs X sts tNever := fun _ _ _ _ _ _ h => h.elim
end

/-! ### targets -/
abbrev TG := V → St → Hp → (St → Hp → Prop) → Prop
abbrev TGs := List V → St → Hp → (St → Hp → Prop) → Prop
def PG (X : Cx) (target : Expr) (t : TG) : Prop :=
  ∀ (pins : List (Addr × Obj)) (s : Shared) (σ : St) (H : Hp) (v : V) (u : Value) (Q : St → Hp → Prop), Inv X pins σ H s → RelV v u → t v σ H Q →
    wpAny (model X.prog X.w) X.A (assign target X.env u) (fun _ s' => ∃ σ' H', Inv X pins σ' H' s' ∧ Q σ' H') X.xe s
/-- several targets, one after another -/
def PGs (X : Cx) (ts : List Expr) (t : TGs) : Prop :=
  ∀ (pins : List (Addr × Obj)) (s : Shared) (σ : St) (H : Hp) (vs : List V) (us : List Value) (Q : St → Hp → Prop), Inv X pins σ H s → Vals vs us → t vs σ H Q →
    wpAny (model X.prog X.w) X.A (assignInOrder ((assignEach ts X.env).map (·.2)) us) (fun _ s' => ∃ σ' H', Inv X pins σ' H' s' ∧ Q σ' H') X.xe s
/-- o[i] = v, by values -/
abbrev TSet := V → V → V → Hp → (Hp → Prop) → Prop
def PSet (X : Cx) (t : TSet) : Prop :=
  ∀ (pins : List (Addr × Obj)) (s : Shared) (σ : St) (H : Hp) (o i v : V) (ov iv u : Value) (Q : Hp → Prop), Inv X pins σ H s → RelV o ov → RelV i iv → RelV v u → t o i v H Q →
    wpAny (model X.prog X.w) X.A (setItem ov iv u) (fun _ s' => ∃ H', Inv X pins σ H' s' ∧ Q H') X.xe s
/-- a op= b, by values -/
abbrev TIp := V → V → Hp → VK → Prop
def PIp (X : Cx) (op : Operator) (t : TIp) : Prop :=
  ∀ (pins : List (Addr × Obj)) (s : Shared) (σ : St) (H : Hp) (x y : V) (v u : Value) (Q : VK), Inv X pins σ H s → RelV x v → RelV y u → t x y H Q →
    wpAny (model X.prog X.w) X.A (inplaceOp op v u) (EP X pins σ Q) X.xe s
section
variable {X : Cx} {pos : Pos}
def gName (i : Nat) : TG := fun v σ H Q => Q (σ.set i (some v)) H
theorem pg_name {i : Nat} {x : Str} (hN : X.N.Nodup) (hi : X.N[i]? = some x) (hx : Loc X.env.scope x) (hf : X.fn x = true ∨ X.env.scope.names.lookup x = some .local := by with_unfolding_all (first | exact .inl rfl | exact .inr rfl | assumption)) : PG X (.Name x pos) (gName i) := by
  intro pins s σ H v u Q I r h
  exact wpAny_assign_Name (store_ok I hN hi hx r (fun s' I' => ⟨_, H, I', h⟩) hf)
def gNil : TGs := fun vs σ H Q => vs = [] ∧ Q σ H
def gCons (t : TG) (u : TGs) : TGs := fun vs σ H Q => ∃ v r, vs = v :: r ∧ t v σ H fun σ' H' => u r σ' H' Q
theorem pgs_nil : PGs X [] gNil := by
  intro pins s σ H vs us Q I r h
  obtain ⟨e, h⟩ := h
  subst e
  cases r
  exact assignInOrder_nil ⟨σ, H, I, h⟩
theorem pgs_cons {e : Expr} {es : List Expr} {t : TG} {u : TGs} (h1 : PG X e t) (h2 : PGs X es u)
    (hs : (assignEach (e :: es) X.env).map (·.2) = assign e X.env :: (assignEach es X.env).map (·.2) := by with_unfolding_all rfl) : PGs X (e :: es) (gCons t u) := by
  intro pins s σ H vs us Q I r h
  obtain ⟨v, vr, e1, h⟩ := h
  subst e1
  cases r with
  | cons r rr =>
    rw [hs]
    refine assignInOrder_cons (thn (h1 pins s σ H _ _ _ I r h) fun _ s1 ⟨σ1, H1, I1, q1⟩ => ?_)
    exact h2 pins s1 σ1 H1 _ _ Q I1 rr q1
/-- (a, b, ..) = a tuple of that length -/
def gTup (K : PySem.W.Frag) (n : Nat) (t : TGs) : TG := fun v σ H Q => ∃ a xs, v = .ref a ∧ SqT K H a xs ∧ xs.length = n ∧ t xs σ H Q
theorem pg_tup {es : List Expr} {k : Nat} {t : TGs} {n : Nat} (hc : X.calm = true) (h : PGs X es t)
    (hn : (assignEach es X.env).length = n := by with_unfolding_all rfl) (hst : (assignEach es X.env).findIdx? (·.1) = none := by with_unfolding_all rfl) : PG X (.Tuple es k pos) (gTup X.K n t) := by
  intro pins s σ H v u Q I r hw
  obtain ⟨a, xs, e1, hq, hl, hw⟩ := hw
  subst e1
  cases r
  obtain ⟨its, rv, ht, hz⟩ := I.tuple hq
  refine assign_Tuple_tuple (I.ok.hd hc) ht (by simp [hn, ← hl, rv.length]) hst fun h' hx => ?_
  have I1 : Inv X pins σ H { s with heap := h' } := I.kept (t' := s.toks) fun b o e => hx b o (Nat.ne_of_lt (Heap.lt_size e)) e
  exact h pins _ σ H xs _ Q I1 (by simpa using rv) hw
/-- o[i] = .. -/
def gSub (to ti : TE) (t : TSet) : TG := fun v σ H Q => to σ H fun o H1 => ti σ H1 fun i H2 => t o i v H2 fun H3 => Q σ H3
theorem pg_sub {o i : Expr} {to ti : TE} {t : TSet} (ho : PE X o to) (hi : PE X i ti) (hs : PSet X t)
    (ha : ∀ v, assign (.Subscript o i pos) X.env v = (do
      let ov ← holding [v] (eval o X.env)
      let iv ← holding [v, ov] (eval i X.env)
      standAt pos
      holding [v, ov, iv] (setItem ov iv v)
      release [v, ov, iv] []) := by with_unfolding_all (intro _; rfl)) : PG X (.Subscript o i pos) (gSub to ti t) := by
  intro pins s σ H v u Q I r h
  rw [ha]
  refine wpAny_bind (wpAny_holding (thn (ho pins s σ H _ I h) fun ov s1 ⟨x, H1, I1, r1, q1⟩ => ?_))
  refine wpAny_bind (wpAny_holding (thn (hi pins s1 σ H1 _ I1 q1) fun iv s2 ⟨y, H2, I2, r2, q2⟩ => ?_))
  refine wpAny_bind (wpAny_standAt (wpAny_bind (wpAny_holding (thn (hs pins s2 σ H2 x y v ov iv u _ I2 r1 r2 r q2) fun _ s3 ⟨H3, I3, q3⟩ => ?_))))
  exact wpAny_release ⟨σ, H3, I3, q3⟩
/-- target = value -/
def tAsg (te : TE) (g : TG) : TS := fun D σ H => te σ H fun x H1 => g x σ H1 D.nx
theorem ps_asg {tg e : Expr} {te : TE} {g : TG} (he : PE X e te) (hg : PG X tg g) (hs : swapsWithSole [tg] e pos.line X.env = pure false := by with_unfolding_all rfl) (hw : swappedStores [tg] e X.env = pure none := by with_unfolding_all rfl)
    (h1 : (assignEach [tg] X.env).map (·.2) = [assign tg X.env] := by with_unfolding_all rfl) : PS X (.Assign [tg] e pos) (tAsg te g) := by
  intro pins s σ H D I h
  refine wpAny_Assign_stores (thn (he pins s σ H _ I h) fun v s1 ⟨x, H1, I1, r1, q1⟩ => ?_) hs hw
  rw [h1]
  exact thn (hg pins s1 σ H1 x v _ I1 r1 q1) fun _ s2 q => q
/-- name = value -/
theorem ps_set {i : Nat} {x : Str} {e : Expr} {te : TE} {pos' : Pos} (hN : X.N.Nodup) (hi : X.N[i]? = some x) (hx : Loc X.env.scope x) (he : PE X e te) (hs : swapsWith e (some (.Name x pos')) pos.line X.env = pure false := by with_unfolding_all rfl) (hf : X.fn x = true ∨ X.env.scope.names.lookup x = some .local := by with_unfolding_all (first | exact .inl rfl | exact .inr rfl | assumption)) :
    PS X (.Assign [.Name x pos'] e pos) (tAsg te (gName i)) := by
  intro pins s σ H D I h
  refine wpAny_Assign_Name (thn (he pins s σ H _ I h) fun v s1 ⟨y, H1, I1, r1, q1⟩ => ?_) hs
  exact store_ok I1 hN hi hx r1 (fun s2 I2 => ⟨_, H1, I2, q1⟩) hf
/-- a, b = x, y with plain local names: stored from the right; the pair itself is not tracked (the opening rows as in PyProof/Rows/TupAssign.lean:23) -/
def tPar (i j : Nat) (ta : TA) : TS := fun D σ H => ta σ H fun vs H1 => ∃ v w, vs = [v, w] ∧ D.nx ((σ.set i (some v)).set j (some w)) H1
theorem ps_par {i j : Nat} {x y : Str} {a b : Expr} {ta : TA} {px py pt : Pos} {kt k2 pt2} (hc : X.calm = true) (hN : X.N.Nodup) (hi : X.N[i]? = some x) (hj : X.N[j]? = some y) (hij : i ≠ j)
    (hx : X.env.scope.names.lookup x = some .local) (hy : X.env.scope.names.lookup y = some .local) (ha : PA X [a, b] ta)
    (hw : swappedStores [.Tuple [.Name x px, .Name y py] kt pt] (.Tuple [a, b] k2 pt2) X.env = pure (some [x, y]))
    (hs : swapsWithSole [.Tuple [.Name x px, .Name y py] kt pt] (.Tuple [a, b] k2 pt2) pos.line X.env = pure false := by with_unfolding_all rfl) :
    PS X (.Assign [.Tuple [.Name x px, .Name y py] kt pt] (.Tuple [a, b] k2 pt2) pos) (tPar i j ta) := by
  intro pins s σ H D I h
  rw [exec_Assign_arm]
  refine wpAny_bind (wpAny_standAt ?_)
  rw [hs]
  refine wpAny_bind (wpAny_pure ?_)
  rw [if_neg (by decide)]
  refine wpAny_bind (Tuple_ (thn (ha _ pins s σ H _ I h) fun us s1 ⟨vs, H1, I1, r1, q1⟩ => ?_))
  obtain ⟨v, w, e1, q1⟩ := q1
  subst e1
  obtain ⟨u1, u2, rfl, rv, rw'⟩ : ∃ u1 u2, us = [u1, u2] ∧ RelV v u1 ∧ RelV w u2 := by
    cases r1 with
    | cons p q =>
      cases q with
      | cons p' q' =>
        cases q'
        exact ⟨_, _, rfl, p, p'⟩
  refine wpAny_newObj_type ?_ (by show 2 ≤ sizeLine; decide)
  have I2 : Inv X pins σ H1 { s1 with heap := s1.heap.push { cls := .type "tuple", data := .seq [u1, u2].toArray } } := I1.kept (t' := s1.toks) fun b o e => Heap.get?_push_of_some _ e
  rw [hw]
  refine wpAny_bind (wpAny_pure ?_)
  show wpAny (model X.prog X.w) X.A (do rule "assign.swapped-stores"; let items ← unpackItems (.ref s1.heap.objs.size) 2 none; assignInOrder [fun v => bindName X.env y v, fun v => bindName X.env x v] items.reverse; pure Flow.next) _ _ _
  refine wpAny_bind (wpAny_rule (wpAny_bind (unpackItems_tuple (items := #[u1, u2]) (I.ok.hd hc) (IsTup.new s1.heap _) fun h' hx' => ?_)))
  have I3 := I2.kept (h' := h') (t' := s1.toks) fun b o e => hx' b o (Nat.ne_of_lt (Heap.lt_size e)) e
  show wpAny _ _ (assignInOrder [fun v => bindName X.env y v, fun v => bindName X.env x v] [u2, u1] >>= fun _ => pure Flow.next) _ _ _
  refine wpAny_bind (assignInOrder_cons (wpAny_bindName (store_ok I3 hN hj (.inl hy) rw' (fun s2 I4 => ?_) (.inr hy))))
  refine assignInOrder_cons (wpAny_bindName (store_ok I4 hN hi (.inl hx) rv (fun s3 I5 => assignInOrder_nil (wpAny_pure ?_)) (.inr hx)))
  rw [List.set_comm _ _ (Ne.symm hij)] at I5
  exact ⟨_, H1, I5, q1⟩
/-- name op= e -/
def tAug (i : Nat) (te : TE) (ti : TIp) : TS := fun D σ H => ∃ x, σ[i]? = some (some x) ∧ te σ H fun y H1 => ti x y H1 fun z H2 => D.nx (σ.set i (some z)) H2
theorem ps_aug {i : Nat} {x : Str} {e : Expr} {te : TE} {op : Operator} {ti : TIp} {pos' : Pos} (hN : X.N.Nodup) (hi : X.N[i]? = some x) (hx : Loc X.env.scope x) (he : PE X e te) (ho : PIp X op ti) (hf : X.fn x = true ∨ X.env.scope.names.lookup x = some .local := by with_unfolding_all (first | exact .inl rfl | exact .inr rfl | assumption)) :
    PS X (.AugAssign (.Name x pos') op e pos) (tAug i te ti) := by
  intro pins s σ H D I h
  obtain ⟨v, e1, h⟩ := h
  obtain ⟨m, hn, hl⟩ := I.loc
  have vis : Vis X.env.scope x := by rcases hx with k | k; exact .inl k; exact .inr (.inl k)
  obtain ⟨u, r, l⟩ := hl i x v hi e1 vis
  refine wpAny_AugAssign_Name ?_
  have go : wpAny (model X.prog X.w) X.A (eval e X.env) (fun w s₂ => wpAny (model X.prog X.w) X.A (inplaceOp op u w) (fun r s₃ => wpAny (model X.prog X.w) X.A (storeName X.env x r) (fun _ => SP X pins D .next) X.xe s₃) X.xe s₂) X.xe s := by
    refine thn (he pins s σ H _ I h) fun w s1 ⟨y, H1, I1, r1, q1⟩ => ?_
    refine thn (ho pins s1 σ H1 v y u w _ I1 r r1 q1) fun z s2 ⟨zv, H2, I2, r2, q2⟩ => ?_
    exact store_ok I2 hN hi hx r2 (fun s3 I3 => ⟨_, H2, I3, q2⟩) hf
  rcases l with ⟨hk, hm⟩ | ⟨hk, c, hc, hcell⟩
  · exact wpAny_loadName_local I.ok.kind hk hn hm go
  · rcases hk with hk | hk
    · exact wpAny_loadName_cell I.ok.kind hk hc hcell go
    · rcases hx with k | k
      · have : X.env.scope.names.lookup x = some .free := hk
        rw [k] at this; cases this
      · have : X.env.scope.names.lookup x = some .free := hk
        rw [k] at this; cases this
/-- o[i] op= e -/
def tAugS (to ti te : TE) (tget : V → V → Hp → VK → Prop) (tip : TIp) (tset : TSet) : TS := fun D σ H => to σ H fun o H1 => ti σ H1 fun i H2 => tget o i H2 fun x H3 => te σ H3 fun y H4 => tip x y H4 fun z H5 => tset o i z H5 fun H6 => D.nx σ H6
/-- o[i], by values -/
def PGet (X : Cx) (t : V → V → Hp → VK → Prop) : Prop :=
  ∀ (pins : List (Addr × Obj)) (s : Shared) (σ : St) (H : Hp) (o i : V) (ov iv : Value) (Q : VK), Inv X pins σ H s → RelV o ov → RelV i iv → t o i H Q →
    wpAny (model X.prog X.w) X.A (getItem ov iv) (EP X pins σ Q) X.xe s
theorem ps_augS {o i e : Expr} {to ti te : TE} {tget : V → V → Hp → VK → Prop} {tip : TIp} {tset : TSet} {op : Operator} {tpos : Pos} (ho : PE X o to) (hi : PE X i ti) (hg : PGet X tget) (he : PE X e te) (hp : PIp X op tip) (hs : PSet X tset)
    (ha : ∀ ov iv new, augStore i ov iv new = (do holding [new, ov, iv] (setItem ov iv new); release [new, ov, iv] []; pure .next) := by intros; rfl) : PS X (.AugAssign (.Subscript o i tpos) op e pos) (tAugS to ti te tget tip tset) := by
  intro pins s σ H D I h
  refine wpAny_AugAssign_SubscriptAny (thn (ho pins s σ H _ I h) fun ov s1 ⟨x1, H1, I1, r1, q1⟩ => ?_) ha
  refine thn (hi pins s1 σ H1 _ I1 q1) fun iv s2 ⟨x2, H2, I2, r2, q2⟩ => ?_
  refine thn (hg pins s2 σ H2 x1 x2 ov iv _ I2 r1 r2 q2) fun old s3 ⟨x3, H3, I3, r3, q3⟩ => ?_
  refine thn (he pins s3 σ H3 _ I3 q3) fun v s4 ⟨x4, H4, I4, r4, q4⟩ => ?_
  refine thn (hp pins s4 σ H4 x3 x4 old v _ I4 r3 r4 q4) fun new s5 ⟨x5, H5, I5, r5, q5⟩ => ?_
  exact thn (hs pins s5 σ H5 x1 x2 x5 ov iv new _ I5 r1 r2 r5 q5) fun _ s6 ⟨H6, I6, q6⟩ => ⟨σ, H6, I6, q6⟩
/-- ints -/
def ipI (f : Int → Int → Int) : TIp := fun x y H Q => ∃ i j, x = .int i ∧ y = .int j ∧ Q (.int (f i j)) H
theorem ip_add : PIp X .Add (ipI fun i j => i + j) := by
  intro pins s σ H x y v u Q I r1 r2 h
  obtain ⟨i, j, e1, e2, q⟩ := h
  subst e1; subst e2
  obtain ⟨t, rfl⟩ := r1
  obtain ⟨t', rfl⟩ := r2
  exact iadd_int ⟨.int _, H, I.tok _, ⟨_, rfl⟩, q⟩
theorem ip_sub : PIp X .Sub (ipI fun i j => i - j) := by
  intro pins s σ H x y v u Q I r1 r2 h
  obtain ⟨i, j, e1, e2, q⟩ := h
  subst e1; subst e2
  obtain ⟨t, rfl⟩ := r1
  obtain ⟨t', rfl⟩ := r2
  exact isub_int ⟨.int _, H, I.tok _, ⟨_, rfl⟩, q⟩
end

/-! ### while -/
section
variable {X : Cx} {pos : Pos}
/-- the invariant W with its measure -/
def tWhile (c : TT) (tb : TS) : TS := fun D σ H => ∃ W : Nat → St → Hp → Prop, (∃ m, W m σ H) ∧ ∀ m σ H, W m σ H →
  c σ H fun b H1 => if b = true then ∃ N : St → Hp → Prop, (∀ σ' H', N σ' H' → ∃ m', m' < m ∧ W m' σ' H') ∧ tb { D with nx := N, ct := N, bk := D.nx } σ H1 else D.nx σ H1
theorem ps_while {c : Expr} {body : List Stmt} {tc : TT} {tb : TS} (hp : PassesOwn (model X.prog X.w) X.A X.env X.xe) (hc : PT X c tc) (hb : PSs X body tb) : PS X (.While c body [] pos) (tWhile tc tb) := by
  intro pins s σ H D I h
  obtain ⟨W, ⟨m0, w0⟩, turn⟩ := h
  refine wpAny_While (codeAny_whileLoop (fun n s' => ∃ σ' H', Inv X pins σ' H' s' ∧ W n σ' H') ?_ m0 ⟨σ, H, I, w0⟩)
  rintro n s1 ⟨σ1, H1, I1, w1⟩
  refine wpAny_passesOwn hp (thn (hc pins s1 σ1 H1 _ I1 (turn n σ1 H1 w1)) fun b s2 ⟨H2, I2, q2⟩ => ?_)
  cases b with
  | true =>
    obtain ⟨N, hN, q2⟩ := q2
    rw [if_pos rfl]
    refine wpAny_passesOwn hp (thn (hb pins s2 σ1 H2 _ I2 q2) fun f s3 q3 => ?_)
    cases f with
    | next =>
      obtain ⟨σ3, H3, I3, n3⟩ := q3
      obtain ⟨m', hm, w3⟩ := hN σ3 H3 n3
      exact ⟨m', hm, σ3, H3, I3, w3⟩
    | cont =>
      obtain ⟨σ3, H3, I3, n3⟩ := q3
      obtain ⟨m', hm, w3⟩ := hN σ3 H3 n3
      exact ⟨m', hm, σ3, H3, I3, w3⟩
    | brk => exact q3
    | ret v => exact q3
  | false =>
    rw [if_neg Bool.false_ne_true]
    exact wpAny_execs_nil ⟨σ1, H2, I2, q2⟩
end

/-! ### what a loop or a comprehension walks -/
/-- at turn i: it yields x (the heap may grow), or it stops -/
structure It where
  go : Nat → Hp → Prop
  yld : Nat → Hp → V → Hp → Prop
  stop : Nat → Hp → Prop
/-- the iterator's own objects may turn: they are not the frame's, not pinned, younger than the entry (or a comprehension's own) -/
def FpOk (X : Cx) (pins : List (Addr × Obj)) (H : Hp) (b : Addr) : Prop :=
  H b = none ∧ b ≠ X.env.locals ∧ b ∉ X.fs ∧ (b ∈ X.ex ∨ X.s₀.heap.objs.size ≤ b) ∧ (∀ x c, X.env.cells.lookup x = some c → c ≠ b) ∧ ∀ p ∈ X.pn ++ pins, p.1 ≠ b
theorem Inv.fpOk {X : Cx} {pins : List (Addr × Obj)} {σ : St} {H H' : Hp} {s : Shared} {b : Addr} (I : Inv X pins σ H s) (hb : s.heap.objs.size ≤ b) (hn : H' b = none) : FpOk X pins H' b := by
  refine ⟨hn, Nat.ne_of_gt (Nat.lt_of_lt_of_le I.lt hb), I.nofs hb, .inr (Nat.le_trans I.sz hb), fun x c e z => ?_, fun p hp z => ?_⟩
  · obtain ⟨v, q⟩ := I.cell x c e
    exact absurd (Nat.lt_of_lt_of_le q.lt (by rw [z]; exact hb)) (Nat.lt_irrefl _)
  · exact absurd (Nat.lt_of_lt_of_le (Heap.lt_size (I.pin p hp).1) (by rw [z]; exact hb)) (Nat.lt_irrefl _)
structure Turn (P : Program) (w : World) (K : PySem.W.Frag) (tg : Expr) (J : It) (fp : List Addr) (it : Addr) (tn : Nat → Heap → Prop) : Prop where
  mem : it ∈ fp
  obj : ∀ i h, tn i h → ∀ b ∈ fp, ∃ o, h.get? b = some o ∧ ∀ v, o.data ≠ .cell v
  keep : ∀ i h h', tn i h → (∀ b ∈ fp, ∀ o, h.get? b = some o → h'.get? b = some o) → tn i h'
  item : ∀ (X : Cx), X.prog = P → X.w = w → X.K = K → X.calm = true → ∀ (i : Nat) (pins : List (Addr × Obj)) (s : Shared) (σ : St) (H : Hp) (E : Value → Shared → Prop), Inv X pins σ H s → (∀ b ∈ fp, FpOk X pins H b) → tn i s.heap → J.go i H →
    wpAny (model P w) X.A (pyNext (.ref it)) (fun r s1 => ∃ u, r = some u ∧
      wpAny (model P w) X.A (letOwnedTupleGo tg (.ref it) u) (fun _ s2 => ∃ x H', Inv X pins σ H' s2 ∧ RelV x u ∧ J.yld i H x H' ∧ tn (i + 1) s2.heap ∧ ∀ b ∈ fp, H' b = none) E s1) E s
  done : ∀ (X : Cx), X.prog = P → X.w = w → X.K = K → X.calm = true → ∀ (i : Nat) (pins : List (Addr × Obj)) (s : Shared) (σ : St) (H : Hp) (E : Value → Shared → Prop), Inv X pins σ H s → (∀ b ∈ fp, FpOk X pins H b) → tn i s.heap → J.stop i H →
    wpAny (model P w) X.A (pyNext (.ref it)) (fun r s1 => r = none ∧ Inv X pins σ H s1) E s
  self : ∀ (A : Around) (i : Nat) (s : Shared) (Q : Value → Shared → Prop) (E : Value → Shared → Prop), tn i s.heap → Q (.ref it) s → wpAny (model P w) A (pyIter (.ref it)) Q E s
abbrev TI := St → Hp → (It → Hp → Prop) → Prop
/-- an iterator has come -/
def PIE (X : Cx) (pins : List (Addr × Obj)) (σ : St) (tg : Expr) (R : It → Hp → Prop) (itv : Value) (s2 : Shared) : Prop :=
  ∃ (it : Addr) (fp : List Addr) (tn : Nat → Heap → Prop) (J : It) (H' : Hp), itv = .ref it ∧ Inv X pins σ H' s2 ∧ Turn X.prog X.w X.K tg J fp it tn ∧ tn 0 s2.heap ∧ (∀ b ∈ fp, FpOk X pins H' b) ∧ R J H'
def PI (X : Cx) (tg iter : Expr) (wi : TI) : Prop :=
  ∀ (pins : List (Addr × Obj)) (s : Shared) (σ : St) (H : Hp) (R : It → Hp → Prop), Inv X pins σ H s → wi σ H R →
    wpAny (model X.prog X.w) X.A (eval iter X.env) (fun v s1 => wpAny (model X.prog X.w) X.A (pyIter v) (PIE X pins σ tg R) X.xe s1) X.xe s

/-- the step ahead of the store is nothing for an iterator that keeps no tuple -/
theorem go_of {M : Model} {A : Around} {E : Value → Shared → Prop} {s : Shared} {tg : Expr} {it : Addr} {u : Value} {o : Obj} {n : String} {vs : Array Value} {Q : Unit → Shared → Prop} (ho : s.heap.get? it = some o) (hc : o.cls = .type n) (hd : o.data = .fields vs)
    (hn : ["enumerate", "zip", "dict_itemiterator", "dict_reverseitemiterator", "odict_iterator", "itertools.zip_longest", "itertools.pairwise"].contains n = false) (hQ : Q () s) : wpAny M A (letOwnedTupleGo tg (.ref it) u) Q E s := by
  unfold letOwnedTupleGo
  cases tg <;> first
    | exact wpAny_pure hQ
    | (cases u <;> first
        | exact wpAny_pure hQ
        | (refine wpAny_bind (wpAny_load ho ?_)
           rw [hc, hd]
           show wpAny M A (if (["enumerate", "zip", "dict_itemiterator", "dict_reverseitemiterator", "odict_iterator", "itertools.zip_longest", "itertools.pairwise"].contains n && vs[0]? == some (rawInt _)) = true then _ else _) Q E s
           rw [if_neg (by intro h; rw [hn, Bool.false_and] at h; cases h)]
           exact wpAny_pure hQ))

/-- the list at a, as it stands at each turn (a loop may append to it) -/
def Itl (K : PySem.W.Frag) (a : Addr) : It :=
  ⟨fun i H => ∃ xs x, SqL K H a xs ∧ xs[i]? = some x, fun i H x H' => H' = H ∧ ∀ xs, SqL K H a xs → xs[i]? = some x, fun i H => ∃ xs, SqL K H a xs ∧ xs.length ≤ i⟩
def Itt (K : PySem.W.Frag) (a : Addr) : It :=
  ⟨fun i H => ∃ xs x, SqT K H a xs ∧ xs[i]? = some x, fun i H x H' => H' = H ∧ ∀ xs, SqT K H a xs → xs[i]? = some x, fun i H => ∃ xs, SqT K H a xs ∧ xs.length ≤ i⟩
/-- lo, lo + 1, .. (n of them) -/
def Itr (lo : Int) (n : Nat) : It := ⟨fun i _ => i < n, fun i H x H' => H' = H ∧ x = .int (lo + i), fun i _ => n ≤ i⟩
theorem turn_list {P : Program} {w : World} {K : PySem.W.Frag} {tg : Expr} (a it : Addr) : Turn P w K tg (Itl K a) [it] it (fun i h => h.IsListIter it a i) where
  mem := by simp
  obj := fun i h st b hb => by
    have e : b = it := by simpa using hb
    subst e
    obtain ⟨o, e, c, d⟩ := st
    exact ⟨o, e, fun v z => by rw [d] at z; cases z⟩
  keep := fun i h h' st k => st.at fun o e => k it (by simp) o e
  item := by
    intro X hP hw hK hc i pins s σ H E I hf st hg
    subst hP hw hK
    obtain ⟨xs, x, hq, hx⟩ := hg
    obtain ⟨its, rv, p, hz⟩ := I.list hq
    obtain ⟨u, hu, ru⟩ := rv.get hx
    obtain ⟨f0, f1, f2, f3, f4, f5⟩ := hf it (by simp)
    refine wpAny_pyNext_list_item st p.isList (x := u) (by simpa using hu) fun h' st' sb => ?_
    have I1 : Inv X pins σ H { s with heap := h' } := I.turned (t' := s.toks) (fun b o hb e => (sb.2 b hb).trans e) f0 f1 f3 f4 f5
    obtain ⟨o, e, c, d⟩ := id st'
    exact ⟨u, rfl, go_of (s := { s with heap := h' }) e c d (by decide) ⟨x, H, I1, ru, ⟨rfl, fun ys hy => by rw [I.list_inj hy hq]; exact hx⟩, st', fun b hb => (hf b hb).1⟩⟩
  done := by
    intro X hP hw hK hc i pins s σ H E I hf st hg
    subst hP hw hK
    obtain ⟨xs, hq, hx⟩ := hg
    obtain ⟨its, rv, p, hz⟩ := I.list hq
    obtain ⟨f0, f1, f2, f3, f4, f5⟩ := hf it (by simp)
    have hl := rv.length
    exact wpAny_pyNext_list_end (I.ok.hd hc) st p.isList (by simp; omega) fun h' eb => ⟨rfl, I.turned (t' := s.toks) (fun b o hb e => eb b o hb e) f0 f1 f3 f4 f5⟩
  self := fun _ _ _ _ _ st h => wpAny_pyIter_listiter st h
theorem turn_tuple {P : Program} {w : World} {K : PySem.W.Frag} {tg : Expr} (a it : Addr) : Turn P w K tg (Itt K a) [it] it (fun i h => h.IsTupleIter it a i) where
  mem := by simp
  obj := fun i h st b hb => by
    have e : b = it := by simpa using hb
    subst e
    obtain ⟨o, e, c, d⟩ := st
    exact ⟨o, e, fun v z => by rw [d] at z; cases z⟩
  keep := fun i h h' st k => st.at fun o e => k it (by simp) o e
  item := by
    intro X hP hw hK hc i pins s σ H E I hf st hg
    subst hP hw hK
    obtain ⟨xs, x, hq, hx⟩ := hg
    obtain ⟨its, rv, p, hz⟩ := I.tuple hq
    obtain ⟨u, hu, ru⟩ := rv.get hx
    obtain ⟨f0, f1, f2, f3, f4, f5⟩ := hf it (by simp)
    refine wpAny_pyNext_tuple_item st (show s.heap.IsTuple a its.toArray from p) (x := u) (by simpa using hu) fun h' st' sb => ?_
    have I1 : Inv X pins σ H { s with heap := h' } := I.turned (t' := s.toks) (fun b o hb e => (sb.2 b hb).trans e) f0 f1 f3 f4 f5
    obtain ⟨o, e, c, d⟩ := id st'
    exact ⟨u, rfl, go_of (s := { s with heap := h' }) e c d (by decide) ⟨x, H, I1, ru, ⟨rfl, fun ys hy => by rw [I.tuple_inj hy hq]; exact hx⟩, st', fun b hb => (hf b hb).1⟩⟩
  done := by
    intro X hP hw hK hc i pins s σ H E I hf st hg
    subst hP hw hK
    obtain ⟨xs, hq, hx⟩ := hg
    obtain ⟨its, rv, p, hz⟩ := I.tuple hq
    obtain ⟨f0, f1, f2, f3, f4, f5⟩ := hf it (by simp)
    have hl := rv.length
    exact wpAny_pyNext_tuple_end (I.ok.hd hc) st (show s.heap.IsTuple a its.toArray from p) (by simp; omega) fun h' eb => ⟨rfl, I.turned (t' := s.toks) (fun b o hb e => eb b o hb e) f0 f1 f3 f4 f5⟩
  self := fun _ _ _ _ _ st h => wpAny_pyIter_tupleiter st h
theorem turn_range {P : Program} {w : World} {K : PySem.W.Frag} {tg : Expr} (it : Addr) (lo : Int) (n : Nat) : Turn P w K tg (Itr lo n) [it] it (fun i h => IsRangeIter h it (lo + (i : Nat) * 1) ((n : Int) - (i : Nat)) 1) where
  mem := by simp
  obj := fun i h st b hb => by
    have e : b = it := by simpa using hb
    subst e
    exact ⟨_, st, fun v z => by
      have z' : Data.fields _ = Data.cell v := z
      cases z'⟩
  keep := fun i h h' st k => k it (by simp) _ st
  item := by
    intro X hP hw hK hc i pins s σ H E I hf st hg
    subst hP hw hK
    obtain ⟨f0, f1, f2, f3, f4, f5⟩ := hf it (by simp)
    have W := Walks.range (prog := X.prog) (w := X.w) (I.ok.hd hc) it lo 1 n
    refine W.item i s _ _ hg st fun v h' tk hv st' kk => ?_
    obtain ⟨t, rfl⟩ := hv
    have I1 : Inv X pins σ H { s with heap := h', toks := tk } := I.turned (fun b o hb e => kk b o (by simpa using hb) e) f0 f1 f3 f4 f5
    refine ⟨_, rfl, go_of (s := { s with heap := h', toks := tk }) (n := "range_iterator") st' rfl rfl (by decide) ⟨.int (lo + i), H, I1, ⟨t, ?_⟩, ⟨rfl, rfl⟩, st', fun b hb => (hf b hb).1⟩⟩
    rw [Int.mul_one]
  done := by
    intro X hP hw hK hc i pins s σ H E I hf st hg
    subst hP hw hK
    obtain ⟨f0, f1, f2, f3, f4, f5⟩ := hf it (by simp)
    exact wpAny_pyNext_range_end (I.ok.hd hc) st (by have : n ≤ i := hg; omega) fun h' eb => ⟨rfl, I.turned (t' := s.toks) (fun b o hb e => eb b o hb e) f0 f1 f3 f4 f5⟩
  self := fun _ _ _ _ _ st h => wpAny_pyIter_rangeiter st h
end L2

namespace L2
open PySem PySem.Spec PyProof.Rows
section
variable {X : Cx} {tg : Expr}
def iList (K : PySem.W.Frag) (tl : TE) : TI := fun σ H R => tl σ H fun x H1 => ∃ a, x = .ref a ∧ (∃ xs, SqL K H1 a xs) ∧ R (Itl K a) H1
def iTup (K : PySem.W.Frag) (tl : TE) : TI := fun σ H R => tl σ H fun x H1 => ∃ a, x = .ref a ∧ (∃ xs, SqT K H1 a xs) ∧ R (Itt K a) H1
theorem pi_list {l : Expr} {tl : TE} (hl : PE X l tl) : PI X tg l (iList X.K tl) := by
  intro pins s σ H R I h
  refine thn (hl pins s σ H _ I h) fun v s1 ⟨x, H1, I1, r1, q1⟩ => ?_
  obtain ⟨a, e, ⟨xs, hq⟩, q⟩ := q1
  subst e
  cases r1
  obtain ⟨its, rv, p, hz⟩ := I1.list hq
  refine wpAny_pyIter_list p.isList ?_
  refine ⟨s1.heap.objs.size, [s1.heap.objs.size], _, _, H1, rfl, I1.kept (t' := s1.toks) fun b o e => Heap.get?_push_of_some _ e, turn_list a _, ⟨_, Heap.get?_push_size _ rfl, rfl, rfl⟩, fun b hb => ?_, q⟩
  have e : b = s1.heap.objs.size := by simpa using hb
  subst e
  exact I1.fpOk (Nat.le_refl _) (I1.hok.fresh (Nat.le_refl _))
theorem pi_tup {l : Expr} {tl : TE} (hl : PE X l tl) : PI X tg l (iTup X.K tl) := by
  intro pins s σ H R I h
  refine thn (hl pins s σ H _ I h) fun v s1 ⟨x, H1, I1, r1, q1⟩ => ?_
  obtain ⟨a, e, ⟨xs, hq⟩, q⟩ := q1
  subst e
  cases r1
  obtain ⟨its, rv, p, hz⟩ := I1.tuple hq
  refine wpAny_pyIter_tuple (show s1.heap.IsTuple a its.toArray from p) ?_
  refine ⟨s1.heap.objs.size, [s1.heap.objs.size], _, _, H1, rfl, I1.kept (t' := s1.toks) fun b o e => Heap.get?_push_of_some _ e, turn_tuple a _, ⟨_, Heap.get?_push_size _ rfl, rfl, rfl⟩, fun b hb => ?_, q⟩
  have e : b = s1.heap.objs.size := by simpa using hb
  subst e
  exact I1.fpOk (Nat.le_refl _) (I1.hok.fresh (Nat.le_refl _))
/-- a range object just made, walked -/
theorem range_it {pins : List (Addr × Obj)} {σ : St} {H : Hp} {s : Shared} {R : It → Hp → Prop} {E : Value → Shared → Prop} {lo hi : Int} {t u v : Tok} {tk : Nat} (I : Inv X pins σ H s) (h1 : -(2 ^ 62) ≤ lo) (h2 : lo < 2 ^ 62) (h3 : -(2 ^ 62) ≤ hi) (h4 : hi < 2 ^ 62)
    (q : R (Itr lo (hi - lo).toNat) H) : wpAny (model X.prog X.w) X.A (pyIter (.ref s.heap.objs.size)) (PIE X pins σ tg R) E { s with heap := s.heap.push { cls := .type "range", data := .fields #[.int lo t, .int hi u, .int 1 v] }, toks := tk } := by
  refine wpAny_pyIter_range (IsRange.new ..) (small_one h1 h2 h3 h4) ?_
  have I1 : Inv X pins σ H { s with heap := s.heap.push { cls := .type "range", data := .fields #[.int lo t, .int hi u, .int 1 v] }, toks := tk } := I.kept fun b o e => Heap.get?_push_of_some _ e
  refine ⟨(s.heap.push { cls := .type "range", data := .fields #[.int lo t, .int hi u, .int 1 v] }).objs.size, [(s.heap.push { cls := .type "range", data := .fields #[.int lo t, .int hi u, .int 1 v] }).objs.size], _, _, H, rfl,
    I1.kept (t' := tk) fun b o e => Heap.get?_push_of_some _ e, turn_range _ lo (hi - lo).toNat, ?_, fun b hb => ?_, q⟩
  · have e1 : lo + ((0 : Nat) : Int) * 1 = lo := by simp
    have e2 : (((hi - lo).toNat : Nat) : Int) - ((0 : Nat) : Int) = Builtin.Range.rangeSize lo hi 1 := by rw [rangeSize_one]; split <;> omega
    show IsRangeIter _ _ (lo + ((0 : Nat) : Int) * 1) ((((hi - lo).toNat : Nat) : Int) - ((0 : Nat) : Int)) 1
    rw [e1, e2]
    exact Heap.get?_push_size _ rfl
  · have e : b = (s.heap.push { cls := .type "range", data := .fields #[.int lo t, .int hi u, .int 1 v] }).objs.size := by simpa using hb
    subst e
    exact I1.fpOk (Nat.le_refl _) (I1.hok.fresh (Nat.le_refl _))
def iRng1 (ta : TA) : TI := fun σ H R => ta σ H fun vs H1 => ∃ j : Int, vs = [.int j] ∧ -(2 ^ 62) ≤ j ∧ j < 2 ^ 62 ∧ R (Itr 0 j.toNat) H1
def iRng2 (ta : TA) : TI := fun σ H R => ta σ H fun vs H1 => ∃ i j : Int, vs = [.int i, .int j] ∧ (-(2 ^ 62) ≤ i ∧ i < 2 ^ 62 ∧ -(2 ^ 62) ≤ j ∧ j < 2 ^ 62) ∧ R (Itr i (j - i).toNat) H1
theorem pi_range1 {a : Expr} {ta : TA} {p pos : Pos} (hg : Gl X "range") (hm : X.mg "range" = none) (ha : PA X [a] ta) (hs : starEach [a] X.env = [(false, eval a X.env)] := by with_unfolding_all rfl) : PI X tg (.Call (.Name "range" p) [a] [] pos) (iRng1 ta) := by
  intro pins s σ H R I h
  refine Call_ (ld_blt I hg hm boot_range (PyProof.Rows.callWith_type1 (thn (ha pos pins s σ H _ I h) fun us s1 ⟨vs, H1, I1, r1, q1⟩ => ?_) hs rfl))
  obtain ⟨j, e, q1, q2, q⟩ := q1
  subst e
  cases r1 with
  | cons r rr =>
    cases rr
    obtain ⟨t, rfl⟩ := r
    exact call_range_1 (range_it I1 (by omega) (by omega) q1 q2 (by simpa using q))
theorem pi_range2 {a b : Expr} {ta : TA} {p pos : Pos} (hg : Gl X "range") (hm : X.mg "range" = none) (ha : PA X [a, b] ta) (hs : starEach [a, b] X.env = [(false, eval a X.env), (false, eval b X.env)] := by with_unfolding_all rfl) (hs2 : starEach [b] X.env = [(false, eval b X.env)] := by with_unfolding_all rfl) :
    PI X tg (.Call (.Name "range" p) [a, b] [] pos) (iRng2 ta) := by
  intro pins s σ H R I h
  refine Call_ (ld_blt I hg hm boot_range (PyProof.Rows.callWith_type1 (thn (ha pos pins s σ H _ I h) fun us s1 ⟨vs, H1, I1, r1, q1⟩ => ?_) (by rw [hs, hs2]) (by rw [hs2]; rfl)))
  obtain ⟨i, j, e, ⟨q1, q2, q3, q4⟩, q⟩ := q1
  subst e
  cases r1 with
  | cons r rr =>
    cases rr with
    | cons r' rr =>
      cases rr
      obtain ⟨t, rfl⟩ := r
      obtain ⟨t', rfl⟩ := r'
      exact call_range_2 (range_it I1 q1 q2 q3 q4 q)

/-! ### for -/
/-- W: the invariant by the turn and a measure; N: what the body is to reach -/
def tFor (wi : TI) (g : TG) (tb : TS) : TS := fun D σ H => wi σ H fun J H1 => ∃ W : Nat → Nat → St → Hp → Prop, (∃ m, W 0 m σ H1) ∧ ∀ i m σ H, W i m σ H →
  (J.stop i H ∧ D.nx σ H) ∨ (J.go i H ∧ ∃ N : St → Hp → Prop, (∀ σ' H', N σ' H' → ∃ m', m' < m ∧ W (i + 1) m' σ' H') ∧ ∀ x H', J.yld i H x H' → g x σ H' fun σ2 H2 => tb { D with nx := N, ct := N, bk := D.nx } σ2 H2)
/-- the records at fp as they stand -/
def pinsAt (fp : List Addr) (h : Heap) : List (Addr × Obj) := fp.filterMap fun b => (h.get? b).map fun o => (b, o)
theorem mem_pinsAt {fp : List Addr} {h : Heap} {b : Addr} {o : Obj} (hb : b ∈ fp) (e : h.get? b = some o) : (b, o) ∈ pinsAt fp h := List.mem_filterMap.mpr ⟨b, hb, by rw [e]; rfl⟩
theorem of_pinsAt {fp : List Addr} {h : Heap} {p : Addr × Obj} (hp : p ∈ pinsAt fp h) : p.1 ∈ fp ∧ h.get? p.1 = some p.2 := by
  obtain ⟨b, hb, e⟩ := List.mem_filterMap.mp hp
  cases q : h.get? b with
  | none => rw [q] at e; cases e
  | some o =>
    rw [q] at e
    have e' : (b, o) = p := Option.some.inj e
    subst e'
    exact ⟨hb, q⟩
theorem Inv.pinned {pins : List (Addr × Obj)} {σ : St} {H : Hp} {s : Shared} {fp : List Addr} (I : Inv X pins σ H s) (hf : ∀ b ∈ fp, FpOk X pins H b) (ho : ∀ b ∈ fp, ∃ o, s.heap.get? b = some o ∧ ∀ v, o.data ≠ .cell v) : Inv X (pins ++ pinsAt fp s.heap) σ H s :=
  I.pins_of fun p hp => (List.mem_append.mp hp).elim (fun z => I.pin p (List.mem_append_right _ z)) fun z => by
    obtain ⟨hb, e⟩ := of_pinsAt z
    obtain ⟨f0, f1, f2, _⟩ := hf p.1 hb
    obtain ⟨o, e', d⟩ := ho p.1 hb
    rw [e] at e'; cases e'
    exact ⟨e, f0, f1, f2, d⟩
theorem Inv.unpinned {pins pl : List (Addr × Obj)} {σ : St} {H : Hp} {s : Shared} (I : Inv X (pins ++ pl) σ H s) : Inv X pins σ H s := I.pins_of fun p hp => I.pin p (List.mem_append_right _ (List.mem_append_left _ hp))
theorem ps_for {iter : Expr} {body : List Stmt} {wi : TI} {g : TG} {tb : TS} {pos : Pos} (hp : PassesOwn (model X.prog X.w) X.A X.env X.xe) (hc : X.calm = true) (hi : PI X tg iter wi) (hg : PG X tg g) (hb : PSs X body tb)
    (hs : ∀ x, foldedSetIterable iter X.env x = pure x := by with_unfolding_all (intro _; rfl)) : PS X (.For tg iter body [] pos) (tFor wi g tb) := by
  intro pins s σ H D I h
  refine wpAny_For (thn (hi pins s σ H _ I h) fun v s1 h1 => thn h1 fun itv s2 h2 => ?_) hs
  obtain ⟨it, fp, tn, J, H2, e, I2, T, st2, f2, W, ⟨m0, w0⟩, turn⟩ := h2
  subst e
  -- what stays true of the iterator's objects through the loop
  have stat : ∀ {H' : Hp}, (∀ b ∈ fp, H' b = none) → ∀ b ∈ fp, FpOk X pins H' b := fun hn b hb => ⟨hn b hb, (f2 b hb).2⟩
  refine codeAny_forLoop_any (fun n s' => ∃ i σ' H', Inv X pins σ' H' s' ∧ tn i s'.heap ∧ (∀ b ∈ fp, H' b = none) ∧ W i n σ' H') ?_ m0 ⟨0, σ, H2, I2, st2, fun b hb => (f2 b hb).1, w0⟩
  rintro n s3 ⟨i, σ3, H3, I3, st3, fr3, w3⟩
  rcases turn i n σ3 H3 w3 with ⟨stop, qn⟩ | ⟨go, N, hN, step⟩
  · refine wpAny_passesOwn hp (thn (T.done X rfl rfl rfl hc i pins s3 σ3 H3 X.xe I3 (stat fr3) st3 stop) fun r s4 ⟨hr, I4⟩ => ?_)
    subst hr
    exact wpAny_execs_nil ⟨σ3, H3, I4, qn⟩
  · refine wpAny_passesOwn hp (thn (T.item X rfl rfl rfl hc i pins s3 σ3 H3 X.xe I3 (stat fr3) st3 go) fun r s4 ⟨u, hr, h4⟩ => ?_)
    subst hr
    refine wpAny_passesOwn hp (thn h4 fun _ s5 ⟨x, H5, I5, r5, y5, st5, fr5⟩ => ?_)
    have I5' := I5.pinned (stat fr5) (T.obj _ _ st5)
    refine wpAny_passesOwn hp (thn (hg _ s5 σ3 H5 x u _ I5' r5 (step x H5 y5)) fun _ s6 ⟨σ6, H6, I6, q6⟩ => ?_)
    refine wpAny_passesOwn hp (thn (hb _ s6 σ6 H6 _ I6 q6) fun f s7 q7 => ?_)
    have again : ∀ {σ7 : St} {H7 : Hp}, Inv X (pins ++ pinsAt fp s5.heap) σ7 H7 s7 → N σ7 H7 → ∃ m, m < n ∧ ∃ i σ' H', Inv X pins σ' H' s7 ∧ tn i s7.heap ∧ (∀ b ∈ fp, H' b = none) ∧ W i m σ' H' := fun {σ7 H7} I7 n7 => by
      obtain ⟨m', hm, w7⟩ := hN σ7 H7 n7
      refine ⟨m', hm, i + 1, σ7, H7, I7.unpinned, T.keep _ _ _ st5 fun b hb o e => (I7.pin (b, o) (List.mem_append_right _ (List.mem_append_right _ (mem_pinsAt hb e)))).1, fun b hb => ?_, w7⟩
      obtain ⟨o, e, d⟩ := T.obj _ _ st5 b hb
      exact (I7.pin (b, o) (List.mem_append_right _ (List.mem_append_right _ (mem_pinsAt hb e)))).2.1
    cases f with
    | next => obtain ⟨σ7, H7, I7, n7⟩ := q7; exact again I7 n7
    | cont => obtain ⟨σ7, H7, I7, n7⟩ := q7; exact again I7 n7
    | brk => obtain ⟨σ7, H7, I7, q7⟩ := q7; exact ⟨σ7, H7, I7.unpinned, q7⟩
    | ret v => obtain ⟨x7, σ7, H7, I7, r7, q7⟩ := q7; exact ⟨x7, σ7, H7, I7.unpinned, r7, q7⟩
end

/-! ### the forms one uses -/
/-- over a list that the body leaves as it is -/
theorem for_list {K : PySem.W.Frag} {a : Addr} {xs : List V} {g : TG} {tb : TS} {D : Ends} {σ : St} {H : Hp} (Pv : Nat → St → Hp → Prop) (h0 : Pv 0 σ H) (hl : ∀ i σ H, i ≤ xs.length → Pv i σ H → SqL K H a xs)
    (hs : ∀ i x σ H, xs[i]? = some x → Pv i σ H → g x σ H fun σ2 H2 => tb { D with nx := Pv (i + 1), ct := Pv (i + 1), bk := D.nx } σ2 H2) (hd : ∀ σ H, Pv xs.length σ H → D.nx σ H) :
    ∃ W : Nat → Nat → St → Hp → Prop, (∃ m, W 0 m σ H) ∧ ∀ i m σ H, W i m σ H →
      ((Itl K a).stop i H ∧ D.nx σ H) ∨ ((Itl K a).go i H ∧ ∃ N : St → Hp → Prop, (∀ σ' H', N σ' H' → ∃ m', m' < m ∧ W (i + 1) m' σ' H') ∧ ∀ x H', (Itl K a).yld i H x H' → g x σ H' fun σ2 H2 => tb { D with nx := N, ct := N, bk := D.nx } σ2 H2) := by
  refine ⟨fun i m σ H => m = xs.length - i ∧ i ≤ xs.length ∧ Pv i σ H, ⟨xs.length, by simp, Nat.zero_le _, h0⟩, ?_⟩
  rintro i m σ H ⟨rfl, hi, p⟩
  have q := hl i σ H hi p
  by_cases hlt : i < xs.length
  · refine .inr ⟨⟨xs, xs[i], q, by simp [hlt]⟩, Pv (i + 1), fun σ' H' p' => ⟨xs.length - (i + 1), by omega, rfl, hlt, p'⟩, fun x H' y => ?_⟩
    obtain ⟨e, y⟩ := y
    subst e
    exact hs i x σ _ (y xs q) p
  · have e : i = xs.length := by omega
    subst e
    exact .inl ⟨⟨xs, q, Nat.le_refl _⟩, hd σ H p⟩
theorem for_tup {K : PySem.W.Frag} {a : Addr} {xs : List V} {g : TG} {tb : TS} {D : Ends} {σ : St} {H : Hp} (Pv : Nat → St → Hp → Prop) (h0 : Pv 0 σ H) (hl : ∀ i σ H, i ≤ xs.length → Pv i σ H → SqT K H a xs)
    (hs : ∀ i x σ H, xs[i]? = some x → Pv i σ H → g x σ H fun σ2 H2 => tb { D with nx := Pv (i + 1), ct := Pv (i + 1), bk := D.nx } σ2 H2) (hd : ∀ σ H, Pv xs.length σ H → D.nx σ H) :
    ∃ W : Nat → Nat → St → Hp → Prop, (∃ m, W 0 m σ H) ∧ ∀ i m σ H, W i m σ H →
      ((Itt K a).stop i H ∧ D.nx σ H) ∨ ((Itt K a).go i H ∧ ∃ N : St → Hp → Prop, (∀ σ' H', N σ' H' → ∃ m', m' < m ∧ W (i + 1) m' σ' H') ∧ ∀ x H', (Itt K a).yld i H x H' → g x σ H' fun σ2 H2 => tb { D with nx := N, ct := N, bk := D.nx } σ2 H2) := by
  refine ⟨fun i m σ H => m = xs.length - i ∧ i ≤ xs.length ∧ Pv i σ H, ⟨xs.length, by simp, Nat.zero_le _, h0⟩, ?_⟩
  rintro i m σ H ⟨rfl, hi, p⟩
  have q := hl i σ H hi p
  by_cases hlt : i < xs.length
  · refine .inr ⟨⟨xs, xs[i], q, by simp [hlt]⟩, Pv (i + 1), fun σ' H' p' => ⟨xs.length - (i + 1), by omega, rfl, hlt, p'⟩, fun x H' y => ?_⟩
    obtain ⟨e, y⟩ := y
    subst e
    exact hs i x σ _ (y xs q) p
  · have e : i = xs.length := by omega
    subst e
    exact .inl ⟨⟨xs, q, Nat.le_refl _⟩, hd σ H p⟩
theorem for_range {lo : Int} {n : Nat} {g : TG} {tb : TS} {D : Ends} {σ : St} {H : Hp} (Pv : Nat → St → Hp → Prop) (h0 : Pv 0 σ H)
    (hs : ∀ i σ H, i < n → Pv i σ H → g (.int (lo + i)) σ H fun σ2 H2 => tb { D with nx := Pv (i + 1), ct := Pv (i + 1), bk := D.nx } σ2 H2) (hd : ∀ σ H, Pv n σ H → D.nx σ H) :
    ∃ W : Nat → Nat → St → Hp → Prop, (∃ m, W 0 m σ H) ∧ ∀ i m σ H, W i m σ H →
      ((Itr lo n).stop i H ∧ D.nx σ H) ∨ ((Itr lo n).go i H ∧ ∃ N : St → Hp → Prop, (∀ σ' H', N σ' H' → ∃ m', m' < m ∧ W (i + 1) m' σ' H') ∧ ∀ x H', (Itr lo n).yld i H x H' → g x σ H' fun σ2 H2 => tb { D with nx := N, ct := N, bk := D.nx } σ2 H2) := by
  refine ⟨fun i m σ H => m = n - i ∧ i ≤ n ∧ Pv i σ H, ⟨n, by simp, Nat.zero_le _, h0⟩, ?_⟩
  rintro i m σ H ⟨rfl, hi, p⟩
  by_cases hlt : i < n
  · refine .inr ⟨hlt, Pv (i + 1), fun σ' H' p' => ⟨n - (i + 1), by omega, rfl, hlt, p'⟩, fun x H' y => ?_⟩
    obtain ⟨e, y⟩ := y
    subst e y
    exact hs i σ _ hlt p
  · have e : i = n := by omega
    subst e
    exact .inl ⟨Nat.le_refl _, hd σ H p⟩
/-- while, by a word and a measure of the state -/
theorem while_by {c : TT} {tb : TS} {D : Ends} {σ : St} {H : Hp} (Pv : St → Hp → Prop) (μ : St → Hp → Nat) (h0 : Pv σ H)
    (hs : ∀ σ H, Pv σ H → c σ H fun b H1 => if b = true then tb { D with nx := fun σ' H' => Pv σ' H' ∧ μ σ' H' < μ σ H, ct := fun σ' H' => Pv σ' H' ∧ μ σ' H' < μ σ H, bk := D.nx } σ H1 else D.nx σ H1)
    (mono : ∀ σ H Q Q', (∀ b H1, Q b H1 → Q' b H1) → c σ H Q → c σ H Q') : tWhile c tb D σ H := by
  refine ⟨fun m σ H => m = μ σ H ∧ Pv σ H, ⟨_, rfl, h0⟩, ?_⟩
  rintro m σ H ⟨rfl, p⟩
  refine mono σ H _ _ (fun b H1 q => ?_) (hs σ H p)
  cases b with
  | true => exact ⟨_, fun σ' H' ⟨p', l⟩ => ⟨_, l, rfl, p'⟩, q⟩
  | false => exact q
end L2

namespace L2
open PySem PySem.Spec PyProof.Rows

abbrev R2 := V → V → Hp → VK → Prop
/-- a two-place operation on values: f is binaryOp op, inplaceOp op or compareOp op -/
def OpR (X : Cx) (f : Value → Value → Sem Value) (r : R2) : Prop :=
  ∀ (pins : List (Addr × Obj)) (s : Shared) (σ : St) (H : Hp) (x y : V) (v u : Value) (Q : VK), Inv X pins σ H s → RelV x v → RelV y u → r x y H Q →
    wpAny (model X.prog X.w) X.A (f v u) (EP X pins σ Q) X.xe s
/-- a one-place operation -/
def UnR (X : Cx) (f : Value → Sem Value) (r : V → Hp → VK → Prop) : Prop :=
  ∀ (pins : List (Addr × Obj)) (s : Shared) (σ : St) (H : Hp) (x : V) (v : Value) (Q : VK), Inv X pins σ H s → RelV x v → r x H Q →
    wpAny (model X.prog X.w) X.A (f v) (EP X pins σ Q) X.xe s
/-- a call of a value that is known (a builtin, a type) with values -/
def CallR (X : Cx) (f : Value) (r : List V → Hp → VK → Prop) : Prop :=
  ∀ (pins : List (Addr × Obj)) (s : Shared) (σ : St) (H : Hp) (xs : List V) (us : List Value) (Q : VK), Inv X pins σ H s → Vals xs us → r xs H Q →
    wpAny (model X.prog X.w) X.A (call f us) (EP X pins σ Q) X.xe s
/-- a value's truth -/
def TruR (X : Cx) (r : V → Hp → (Bool → Hp → Prop) → Prop) : Prop :=
  ∀ (pins : List (Addr × Obj)) (s : Shared) (σ : St) (H : Hp) (x : V) (v : Value) (Q : Bool → Hp → Prop), Inv X pins σ H s → RelV x v → r x H Q →
    wpAny (model X.prog X.w) X.A (truthy v) (TP X pins σ Q) X.xe s

def tOp (r : R2) (ta tb : TE) : TE := fun σ H Q => ta σ H fun x H1 => tb σ H1 fun y H2 => r x y H2 Q
def tUn (r : V → Hp → VK → Prop) (ta : TE) : TE := fun σ H Q => ta σ H fun x H1 => r x H1 Q
/-- ints in, under C, and a value out -/
def rI (C : Int → Int → Prop) (g : Int → Int → V) : R2 := fun x y H Q => ∃ i j, x = .int i ∧ y = .int j ∧ C i j ∧ Q (g i j) H
def rI0 (g : Int → Int → V) : R2 := fun x y H Q => ∃ i j, x = .int i ∧ y = .int j ∧ Q (g i j) H
def rU (g : Int → V) : V → Hp → VK → Prop := fun x H Q => ∃ i, x = .int i ∧ Q (g i) H

section
variable {X : Cx} {a b c : Expr} {ta tb tc : TE} {pos : Pos}

theorem binT (ha : PE X a ta) (hb : PE X b tb) {pins : List (Addr × Obj)} {s : Shared} {σ : St} {H : Hp} {R : V → V → Hp → Prop} (I : Inv X pins σ H s)
    (h : ta σ H fun x H1 => tb σ H1 fun y H2 => R x y H2) {Q : Value → Shared → Prop} {f : Value → Value → Sem Value}
    (hf : ∀ v u s2 x y H2, Inv X pins σ H2 s2 → RelV x v → RelV y u → R x y H2 → wpAny (model X.prog X.w) X.A (f v u) Q X.xe s2) :
    wpAny (model X.prog X.w) X.A (eval a X.env) (fun v s₁ => wpAny (model X.prog X.w) X.A (eval b X.env) (fun u s₂ => wpAny (model X.prog X.w) X.A (f v u) Q X.xe s₂) X.xe s₁) X.xe s := by
  refine thn (ha pins s σ H _ I h) fun v s1 ⟨x, H1, I1, r1, q1⟩ => ?_
  refine thn (hb pins s1 σ H1 _ I1 q1) fun u s2 ⟨y, H2, I2, r2, q2⟩ => ?_
  exact hf v u s2 x y H2 I2 r1 r2 q2

theorem pe_op {op : Operator} {r : R2} (ho : OpR X (binaryOp op) r) (ha : PE X a ta) (hb : PE X b tb) : PE X (.BinOp a op b pos) (tOp r ta tb) := by
  intro pins s σ H Q I h
  exact wpAny_BinOp (binT ha hb I h fun v u s2 x y H2 I2 rx ry q => ho pins s2 σ H2 x y v u Q I2 rx ry q)
theorem pe_un {op : UnaryOp} {r : V → Hp → VK → Prop} (ho : UnR X (unaryOp op) r) (ha : PE X a ta) : PE X (.UnaryOp op a pos) (tUn r ta) := by
  intro pins s σ H Q I h
  exact UnaryOp_ (thn (ha pins s σ H _ I h) fun v s1 ⟨x, H1, I1, r1, q1⟩ => ho pins s1 σ H1 x v Q I1 r1 q1)
/-- a op= e at a name: the name's slot i -/
theorem augR {op : Operator} {r : R2} (ho : OpR X (inplaceOp op) r) {pins : List (Addr × Obj)} {s : Shared} {σ : St} {H : Hp} {x y : V} {v u : Value} {Q : VK} (I : Inv X pins σ H s)
    (rx : RelV x v) (ry : RelV y u) (q : r x y H Q) : wpAny (model X.prog X.w) X.A (inplaceOp op v u) (EP X pins σ Q) X.xe s := ho pins s σ H x y v u Q I rx ry q

/-! ### ints -/
theorem opI {f : Value → Value → Sem Value} {C : Int → Int → Prop} {g : Int → Int → Int}
    (rule : ∀ (i j : Int) (t u : Tok) (s : Shared) (Q : Value → Shared → Prop) (E : Value → Shared → Prop), C i j → Q (.int (g i j) s.toks) { s with toks := s.toks + 1 } → wpAny (model X.prog X.w) X.A (f (.int i t) (.int j u)) Q E s) :
    OpR X f (rI C fun i j => .int (g i j)) := by
  intro pins s σ H x y v u Q I rx ry h
  obtain ⟨i, j, rfl, rfl, hc, q⟩ := h
  obtain ⟨t, rfl⟩ := rx
  obtain ⟨t', rfl⟩ := ry
  exact rule i j t t' s _ _ hc ⟨.int (g i j), H, I.tok _, ⟨_, rfl⟩, q⟩
theorem opI0 {f : Value → Value → Sem Value} {g : Int → Int → Int}
    (rule : ∀ (i j : Int) (t u : Tok) (s : Shared) (Q : Value → Shared → Prop) (E : Value → Shared → Prop), Q (.int (g i j) s.toks) { s with toks := s.toks + 1 } → wpAny (model X.prog X.w) X.A (f (.int i t) (.int j u)) Q E s) :
    OpR X f (rI0 fun i j => .int (g i j)) := by
  intro pins s σ H x y v u Q I rx ry h
  obtain ⟨i, j, rfl, rfl, q⟩ := h
  obtain ⟨t, rfl⟩ := rx
  obtain ⟨t', rfl⟩ := ry
  exact rule i j t t' s _ _ ⟨.int (g i j), H, I.tok _, ⟨_, rfl⟩, q⟩
theorem opB0 {f : Value → Value → Sem Value} {g : Int → Int → Bool}
    (rule : ∀ (i j : Int) (t u : Tok) (s : Shared) (Q : Value → Shared → Prop) (E : Value → Shared → Prop), Q (.bool (g i j)) s → wpAny (model X.prog X.w) X.A (f (.int i t) (.int j u)) Q E s) :
    OpR X f (rI0 fun i j => .bl (g i j)) := by
  intro pins s σ H x y v u Q I rx ry h
  obtain ⟨i, j, rfl, rfl, q⟩ := h
  obtain ⟨t, rfl⟩ := rx
  obtain ⟨t', rfl⟩ := ry
  exact rule i j t t' s _ _ ⟨.bl (g i j), H, I, rfl, q⟩

def CDiv (i j : Int) : Prop := 0 < j ∧ j < 1073741824
def CDivN (i j : Int) : Prop := j ≠ 0 ∧ j.natAbs < 1073741824
def CPow (i j : Int) : Prop := 0 ≤ j ∧ j ≤ 1000000 ∧ i.natAbs < 2 ^ 64
def CMul (i j : Int) : Prop := (-(2 ^ 64) < i ∧ i < 2 ^ 64) ∨ (-(2 ^ 64) < j ∧ j < 2 ^ 64)
theorem CMul.ok {i j : Int} (h : CMul i j) : IntMulOk i j := by
  rcases h with ⟨h1, h2⟩ | ⟨h1, h2⟩
  · exact .of_left (intBits_le_64 h1 h2)
  · exact .of_right (intBits_le_64 h1 h2)
theorem two_pow_nn (k : Nat) : (0 : Int) ≤ 2 ^ k := by
  rw [two_pow_cast]
  exact Int.natCast_nonneg _

theorem op_add : OpR X (binaryOp .Add) (rI0 fun i j => .int (i + j)) := opI0 fun _ _ _ _ _ _ _ q => add_int q
theorem op_sub : OpR X (binaryOp .Sub) (rI0 fun i j => .int (i - j)) := opI0 fun _ _ _ _ _ _ _ q => sub_int q
theorem op_mul : OpR X (binaryOp .Mult) (rI CMul fun i j => .int (i * j)) := opI fun _ _ _ _ _ _ _ hc q => mul_int q hc.ok
/-- // by a positive divisor -/
theorem op_fdiv : OpR X (binaryOp .FloorDiv) (rI CDiv fun i j => .int (i / j)) := opI fun i j _ _ _ _ _ hc q => by
  have h1 : (0 : Int) < j := hc.1
  have h2 : j < 1073741824 := hc.2
  exact floordiv_int (by omega) (by rw [Int.fdiv_eq_ediv_of_nonneg i (by omega)]; exact q) (.inl (PyProof.noPylong_small (by omega)))
theorem op_fdivN : OpR X (binaryOp .FloorDiv) (rI CDivN fun i j => .int (i.fdiv j)) := opI fun _ _ _ _ _ _ _ hc q => floordiv_int hc.1 q (.inl (PyProof.noPylong_small hc.2))
/-- % by a positive divisor of any size -/
theorem op_mod : OpR X (binaryOp .Mod) (rI (fun _ j => 0 < j) fun i j => .int (i % j)) := opI fun i j _ _ _ _ _ hc q => by
  have h1 : (0 : Int) < j := hc
  exact mod_int' (by omega) (by rw [Int.fmod_eq_emod_of_nonneg i (by omega)]; exact q)
theorem op_modN : OpR X (binaryOp .Mod) (rI (fun _ j => j ≠ 0) fun i j => .int (i.fmod j)) := opI fun _ _ _ _ _ _ _ hc q => mod_int' hc q
theorem op_pow : OpR X (binaryOp .Pow) (rI CPow fun i j => .int (i ^ j.toNat)) := opI fun _ _ _ _ _ _ _ hc q => pow_int_small hc.1 hc.2.1 hc.2.2 q
theorem op_shl : OpR X (binaryOp .LShift) (rI CPow fun i j => .int (i * 2 ^ j.toNat)) := opI fun _ _ _ _ _ _ _ hc q => lshift_int_small hc.1 hc.2.1 hc.2.2 q
theorem op_shr : OpR X (binaryOp .RShift) (rI (fun _ j => 0 ≤ j) fun i j => .int (i / 2 ^ j.toNat)) := opI fun i j _ _ _ _ _ hc q =>
  rshift_int hc (by rw [Int.fdiv_eq_ediv_of_nonneg i (two_pow_nn _)]; exact q)
theorem op_and : OpR X (binaryOp .BitAnd) (rI0 fun i j => .int (Builtin.bitAnd i j)) := opI0 fun _ _ _ _ _ _ _ q => and_int q
theorem op_or : OpR X (binaryOp .BitOr) (rI0 fun i j => .int (Builtin.bitOr i j)) := opI0 fun _ _ _ _ _ _ _ q => or_int q
theorem op_xor : OpR X (binaryOp .BitXor) (rI0 fun i j => .int (Builtin.bitXor i j)) := opI0 fun _ _ _ _ _ _ _ q => xor_int q

theorem iop_add : OpR X (inplaceOp .Add) (rI0 fun i j => .int (i + j)) := opI0 fun _ _ _ _ _ _ _ q => iadd_int q
theorem iop_sub : OpR X (inplaceOp .Sub) (rI0 fun i j => .int (i - j)) := opI0 fun _ _ _ _ _ _ _ q => isub_int q
theorem iop_mul : OpR X (inplaceOp .Mult) (rI CMul fun i j => .int (i * j)) := opI fun _ _ _ _ _ _ _ hc q => imul_int q hc.ok
theorem iop_fdiv : OpR X (inplaceOp .FloorDiv) (rI CDiv fun i j => .int (i / j)) := opI fun i j _ _ _ _ _ hc q => by
  have h1 : (0 : Int) < j := hc.1
  have h2 : j < 1073741824 := hc.2
  exact ifloordiv_int (by omega) (by rw [Int.fdiv_eq_ediv_of_nonneg i (by omega)]; exact q) (.inl (PyProof.noPylong_small (by omega)))
theorem iop_mod : OpR X (inplaceOp .Mod) (rI (fun _ j => 0 < j) fun i j => .int (i % j)) := opI fun i j _ _ _ _ _ hc q => by
  have h1 : (0 : Int) < j := hc
  exact imod_int (by omega) (by rw [Int.fmod_eq_emod_of_nonneg i (by omega)]; exact q)
theorem iop_shl : OpR X (inplaceOp .LShift) (rI CPow fun i j => .int (i * 2 ^ j.toNat)) := opI fun _ _ _ _ _ _ _ hc q => ilshift_int_small hc.1 hc.2.1 hc.2.2 q
theorem iop_shr : OpR X (inplaceOp .RShift) (rI (fun _ j => 0 ≤ j) fun i j => .int (i / 2 ^ j.toNat)) := opI fun i j _ _ _ _ _ hc q =>
  irshift_int hc (by rw [Int.fdiv_eq_ediv_of_nonneg i (two_pow_nn _)]; exact q)
theorem iop_and : OpR X (inplaceOp .BitAnd) (rI0 fun i j => .int (Builtin.bitAnd i j)) := opI0 fun _ _ _ _ _ _ _ q => iand_int q
theorem iop_or : OpR X (inplaceOp .BitOr) (rI0 fun i j => .int (Builtin.bitOr i j)) := opI0 fun _ _ _ _ _ _ _ q => ior_int q
theorem iop_xor : OpR X (inplaceOp .BitXor) (rI0 fun i j => .int (Builtin.bitXor i j)) := opI0 fun _ _ _ _ _ _ _ q => ixor_int q

theorem unI {f : Value → Sem Value} {g : Int → Int}
    (rule : ∀ (i : Int) (t : Tok) (s : Shared) (Q : Value → Shared → Prop) (E : Value → Shared → Prop), Q (.int (g i) s.toks) { s with toks := s.toks + 1 } → wpAny (model X.prog X.w) X.A (f (.int i t)) Q E s) :
    UnR X f (rU fun i => .int (g i)) := by
  intro pins s σ H x v Q I rx h
  obtain ⟨i, rfl, q⟩ := h
  obtain ⟨t, rfl⟩ := rx
  exact rule i t s _ _ ⟨.int (g i), H, I.tok _, ⟨_, rfl⟩, q⟩
theorem un_neg : UnR X (unaryOp .USub) (rU fun i => .int (-i)) := unI fun _ _ _ _ _ q => neg_int q
theorem un_inv : UnR X (unaryOp .Invert) (rU fun i => .int (Builtin.bitNot i)) := unI fun _ _ _ _ _ q => invert_int q

/-! ### bools among ints: n += (a < b) -/
theorem op_add_ib : OpR X (binaryOp .Add) (fun x y H Q => ∃ i k, x = .int i ∧ y = .bl k ∧ Q (.int (i + b2i k)) H) := by
  intro pins s σ H x y v u Q I rx ry h
  obtain ⟨i, k, rfl, rfl, q⟩ := h
  obtain ⟨t, rfl⟩ := rx
  cases ry
  exact add_int_bool ⟨.int (i + b2i k), H, I.tok _, ⟨_, rfl⟩, q⟩
end

/-! ### comparisons -/
/-- the scalars that == tells apart as data does -/
def scal : V → V → Bool
  | .non, .non => true | .non, .int _ => true | .int _, .non => true | .non, .bl _ => true | .bl _, .non => true | .non, .str _ => true | .str _, .non => true
  | .int _, .int _ => true | .bl _, .bl _ => true | .str _, .str _ => true | .byt _, .byt _ => true
  | .int _, .str _ => true | .str _, .int _ => true | .bl _, .str _ => true | .str _, .bl _ => true
  | _, _ => false
def rEq : R2 := fun x y H Q => scal x y = true ∧ Q (.bl (decide (x = y))) H
def rNe : R2 := fun x y H Q => scal x y = true ∧ Q (.bl (!decide (x = y))) H

theorem dec_int {i j : Int} : decide (V.int i = V.int j) = (i == j) := by
  rw [Bool.eq_iff_iff]
  simp
theorem dec_bl {i j : Bool} : decide (V.bl i = V.bl j) = (i == j) := by
  rw [Bool.eq_iff_iff]
  simp
theorem dec_str {i j : Str} : decide (V.str i = V.str j) = (i == j) := by
  rw [Bool.eq_iff_iff]
  simp
theorem dec_byt {i j : Array UInt8} : decide (V.byt i = V.byt j) = (i.toList == j.toList) := by
  rw [Bool.eq_iff_iff]
  cases i
  cases j
  simp

section
variable {X : Cx} {a b c : Expr} {ta tb tc : TE} {pos : Pos}
theorem fin_bl {pins : List (Addr × Obj)} {σ : St} {H : Hp} {s : Shared} {Q : VK} {k k' : Bool} (I : Inv X pins σ H s) (q : Q (.bl k) H) (e : k = k') : EP X pins σ Q (.bool k') s := by
  subst e
  exact ⟨.bl k, H, I, rfl, q⟩
theorem op_eq : OpR X (compareOp .Eq) rEq := by
  intro pins s σ H x y v u Q I rx ry h
  obtain ⟨hs, q⟩ := h
  cases x with
  | non =>
    cases rx
    cases y with
    | non => cases ry; exact PySem.EqNone.eq_none_none (fin_bl I q (by simp))
    | bl j => cases ry; exact PySem.EqNone.eq_none_bool (fin_bl I q (by simp))
    | int j => obtain ⟨t', rfl⟩ := ry; exact PySem.EqNone.eq_none_int (fin_bl I q (by simp))
    | str j => obtain ⟨t', rfl⟩ := ry; exact PySem.EqNone.eq_none_str (fin_bl I q (by simp))
    | _ => exact absurd (show false = true from hs) Bool.false_ne_true
  | bl i =>
    cases rx
    cases y with
    | non => cases ry; exact PySem.EqNone.eq_bool_none (fin_bl I q (by simp))
    | bl j => cases ry; exact eq_bool (fin_bl I q dec_bl)
    | str j => obtain ⟨t', rfl⟩ := ry; exact PySem.EqMixed.eq_bool_str (fin_bl I q (by simp))
    | _ => exact absurd (show false = true from hs) Bool.false_ne_true
  | int i =>
    obtain ⟨t, rfl⟩ := rx
    cases y with
    | non => cases ry; exact PySem.EqNone.eq_int_none (fin_bl I q (by simp))
    | int j => obtain ⟨t', rfl⟩ := ry; exact eq_int (fin_bl I q dec_int)
    | str j => obtain ⟨t', rfl⟩ := ry; exact PySem.EqMixed.eq_int_str (fin_bl I q (by simp))
    | _ => exact absurd (show false = true from hs) Bool.false_ne_true
  | str i =>
    obtain ⟨t, rfl⟩ := rx
    cases y with
    | non => cases ry; exact PySem.EqNone.eq_str_none (fin_bl I q (by simp))
    | bl j => cases ry; exact PySem.EqMixed.eq_str_bool (fin_bl I q (by simp))
    | int j => obtain ⟨t', rfl⟩ := ry; exact PySem.EqMixed.eq_str_int (fin_bl I q (by simp))
    | str j => obtain ⟨t', rfl⟩ := ry; exact eq_str (fin_bl I q dec_str)
    | _ => exact absurd (show false = true from hs) Bool.false_ne_true
  | byt i =>
    obtain ⟨t, rfl⟩ := rx
    cases y with
    | byt j => obtain ⟨t', rfl⟩ := ry; exact PySem.W.eq_bytes (fin_bl I q dec_byt)
    | _ => exact absurd (show false = true from hs) Bool.false_ne_true
  | _ => cases y <;> exact absurd (show false = true from hs) Bool.false_ne_true
theorem op_ne : OpR X (compareOp .NotEq) rNe := by
  intro pins s σ H x y v u Q I rx ry h
  obtain ⟨hs, q⟩ := h
  cases x with
  | non =>
    cases rx
    cases y with
    | non => cases ry; exact PySem.EqNone.ne_none_none (fin_bl I q (by simp))
    | bl j => cases ry; exact PySem.EqNone.ne_none_bool (fin_bl I q (by simp))
    | int j => obtain ⟨t', rfl⟩ := ry; exact PySem.EqNone.ne_none_int (fin_bl I q (by simp))
    | str j => obtain ⟨t', rfl⟩ := ry; exact PySem.EqNone.ne_none_str (fin_bl I q (by simp))
    | _ => exact absurd (show false = true from hs) Bool.false_ne_true
  | bl i =>
    cases rx
    cases y with
    | non => cases ry; exact PySem.EqNone.ne_bool_none (fin_bl I q (by simp))
    | bl j => cases ry; exact ne_bool (fin_bl I q (congrArg not dec_bl))
    | str j => obtain ⟨t', rfl⟩ := ry; exact PySem.EqMixed.ne_bool_str (fin_bl I q (by simp))
    | _ => exact absurd (show false = true from hs) Bool.false_ne_true
  | int i =>
    obtain ⟨t, rfl⟩ := rx
    cases y with
    | non => cases ry; exact PySem.EqNone.ne_int_none (fin_bl I q (by simp))
    | int j => obtain ⟨t', rfl⟩ := ry; exact ne_int (fin_bl I q (congrArg not dec_int))
    | str j => obtain ⟨t', rfl⟩ := ry; exact PySem.EqMixed.ne_int_str (fin_bl I q (by simp))
    | _ => exact absurd (show false = true from hs) Bool.false_ne_true
  | str i =>
    obtain ⟨t, rfl⟩ := rx
    cases y with
    | non => cases ry; exact PySem.EqNone.ne_str_none (fin_bl I q (by simp))
    | bl j => cases ry; exact PySem.EqMixed.ne_str_bool (fin_bl I q (by simp))
    | int j => obtain ⟨t', rfl⟩ := ry; exact PySem.EqMixed.ne_str_int (fin_bl I q (by simp))
    | str j => obtain ⟨t', rfl⟩ := ry; exact ne_str (fin_bl I q (congrArg not dec_str))
    | _ => exact absurd (show false = true from hs) Bool.false_ne_true
  | byt i =>
    obtain ⟨t, rfl⟩ := rx
    cases y with
    | byt j => obtain ⟨t', rfl⟩ := ry; exact PySem.W.ne_bytes (fin_bl I q (congrArg not dec_byt))
    | _ => exact absurd (show false = true from hs) Bool.false_ne_true
  | _ => cases y <;> exact absurd (show false = true from hs) Bool.false_ne_true

theorem op_lt : OpR X (compareOp .Lt) (rI0 fun i j => .bl (decide (i < j))) := opB0 fun _ _ _ _ _ _ _ q => lt_int q
theorem op_le : OpR X (compareOp .LtE) (rI0 fun i j => .bl (decide (i ≤ j))) := opB0 fun _ _ _ _ _ _ _ q => le_int q
theorem op_gt : OpR X (compareOp .Gt) (rI0 fun i j => .bl (decide (j < i))) := opB0 fun _ _ _ _ _ _ _ q => gt_int q
theorem op_ge : OpR X (compareOp .GtE) (rI0 fun i j => .bl (decide (j ≤ i))) := opB0 fun _ _ _ _ _ _ _ q => ge_int q
theorem op_lt_str : OpR X (compareOp .Lt) (fun x y H Q => ∃ i j, x = .str i ∧ y = .str j ∧ Q (.bl (decide (i.cps.toList < j.cps.toList))) H) := by
  intro pins s σ H x y v u Q I rx ry h
  obtain ⟨i, j, rfl, rfl, q⟩ := h
  obtain ⟨t, rfl⟩ := rx
  obtain ⟨t', rfl⟩ := ry
  exact lt_str (fin_bl I q rfl)
/-- the one string within the other -/
theorem op_in_str : OpR X (compareOp .In) (fun x y H Q => ∃ i j, x = .str i ∧ y = .str j ∧ Q (.bl (!(Builtin.Str.occurrences j i 0 j.length 1).isEmpty)) H) := by
  intro pins s σ H x y v u Q I rx ry h
  obtain ⟨i, j, rfl, rfl, q⟩ := h
  obtain ⟨t, rfl⟩ := rx
  obtain ⟨t', rfl⟩ := ry
  exact in_str (fin_bl I q rfl)

/-- is None, is not None: the right side a value none -/
theorem op_isN : OpR X (compareOp .Is) (fun x y H Q => y = .non ∧ Q (.bl (decide (x = .non))) H) := by
  intro pins s σ H x y v u Q I rx ry h
  obtain ⟨rfl, q⟩ := h
  cases ry
  refine is_none_gen (fin_bl I q ?_)
  cases x <;> first
    | (cases rx; rfl)
    | (obtain ⟨t, rfl⟩ := rx; rfl)
theorem op_notN : OpR X (compareOp .IsNot) (fun x y H Q => y = .non ∧ Q (.bl (!decide (x = .non))) H) := by
  intro pins s σ H x y v u Q I rx ry h
  obtain ⟨rfl, q⟩ := h
  cases ry
  refine isnot_none_gen (fin_bl I q ?_)
  cases x <;> first
    | (cases rx; rfl)
    | (obtain ⟨t, rfl⟩ := rx; rfl)

theorem op_notin_str : OpR X (compareOp .NotIn) (fun x y H Q => ∃ i j, x = .str i ∧ y = .str j ∧ Q (.bl (!(!(Builtin.Str.occurrences j i 0 j.length 1).isEmpty))) H) := by
  intro pins s σ H x y v u Q I rx ry h
  obtain ⟨i, j, rfl, rfl, q⟩ := h
  obtain ⟨t, rfl⟩ := rx
  obtain ⟨t', rfl⟩ := ry
  exact notIn_str (fin_bl I q rfl)
/-- is, is not of two objects that are tracked lists or instances -/
def isObj : HO → Bool
  | .lst _ => true
  | .ins _ _ _ => true
  | _ => false
theorem obj_there {pins : List (Addr × Obj)} {s : Shared} {σ : St} {H : Hp} {a : Addr} {o : HO} (I : Inv X pins σ H s) (h : H a = some o) (p : isObj o = true) : ∃ ob, s.heap.get? a = some ob ∧ ob.cls ≠ .type "tuple" := by
  cases o with
  | lst xs =>
    obtain ⟨_, its, n, _, e⟩ : xs.length ≤ sizeLine ∧ ∃ (its : List Value) (n : Nat), Vals xs its ∧ s.heap.get? a = some { cls := .type "list", data := .seq its.toArray n } := I.hok a _ h
    exact ⟨_, e, (by show Value.type "list" ≠ .type "tuple"; decide +kernel)⟩
  | ins C dx fs =>
    have x := I.hok a _ h
    obtain ⟨_, _, _, e, _⟩ := x
    exact ⟨_, e, (by show Value.ref C ≠ .type "tuple"; exact fun z => by cases z)⟩
  | _ => exact absurd (show false = true from p) Bool.false_ne_true
theorem op_is_ref : OpR X (compareOp .Is) (fun x y H Q => ∃ a b oa ob, x = .ref a ∧ y = .ref b ∧ H a = some oa ∧ isObj oa = true ∧ H b = some ob ∧ isObj ob = true ∧ Q (.bl (decide (a = b))) H) := by
  intro pins s σ H x y v u Q I rx ry h
  obtain ⟨a, b, oa, ob, rfl, rfl, ha, pa, hb, pb, q⟩ := h
  cases rx
  cases ry
  obtain ⟨o1, e1, n1⟩ := obj_there I ha pa
  obtain ⟨o2, e2, _⟩ := obj_there I hb pb
  by_cases z : a = b
  · subst z
    exact wpAny_is_ref_self (fin_bl I q (by simp))
  · exact wpAny_is_ref_other z e1 e2 n1 (fin_bl I q (by simp [z]))
theorem op_isnot_ref : OpR X (compareOp .IsNot) (fun x y H Q => ∃ a b oa ob, x = .ref a ∧ y = .ref b ∧ H a = some oa ∧ isObj oa = true ∧ H b = some ob ∧ isObj ob = true ∧ Q (.bl (!decide (a = b))) H) := by
  intro pins s σ H x y v u Q I rx ry h
  obtain ⟨a, b, oa, ob, rfl, rfl, ha, pa, hb, pb, q⟩ := h
  cases rx
  cases ry
  obtain ⟨o1, e1, n1⟩ := obj_there I ha pa
  obtain ⟨o2, e2, _⟩ := obj_there I hb pb
  by_cases z : a = b
  · subst z
    exact wpAny_isNot_ref_self (fin_bl I q (by simp))
  · exact wpAny_isNot_ref_other z e1 e2 n1 (fin_bl I q (by simp [z]))

/-- two rules for one operation: by cases -/
theorem OpR.or {f : Value → Value → Sem Value} {r r' : R2} (h : OpR X f r) (h' : OpR X f r') : OpR X f (fun x y H Q => r x y H Q ∨ r' x y H Q) := by
  intro pins s σ H x y v u Q I rx ry q
  rcases q with q | q
  · exact h pins s σ H x y v u Q I rx ry q
  · exact h' pins s σ H x y v u Q I rx ry q

theorem nomark (b : Expr) {op : CmpOp} (h : op ≠ .In := by decide) (h2 : op ≠ .NotIn := by decide) : behindInMarks op b = false := by
  have e1 : (op == CmpOp.In) = false := by cases op <;> first | rfl | exact absurd rfl h
  have e2 : (op == CmpOp.NotIn) = false := by cases op <;> first | rfl | exact absurd rfl h2
  cases b <;> simp [behindInMarks, e1, e2]
/-- a comparison as a value; hm: nomark b, or (for in, not in) by with_unfolding_all rfl -/
theorem pe_cmpR {op : CmpOp} {r : R2} (ho : OpR X (compareOp op) r) (ha : PE X a ta) (hb : PE X b tb) (hm : behindInMarks op b = false) : PE X (.Compare a [op] [b] pos) (tOp r ta tb) := by
  intro pins s σ H Q I h
  exact wpAny_Compare1 (binT ha hb I h fun v u s2 x y H2 I2 rx ry q => ho pins s2 σ H2 x y v u Q I2 rx ry q) hm
/-- a reading of a value as a test -/
def tTest (t : TE) : TT := fun σ H Q => t σ H fun x H' => ∃ k, x = .bl k ∧ Q k H'
theorem pt_cmpR {op : CmpOp} {r : R2} (ho : OpR X (compareOp op) r) (ha : PE X a ta) (hb : PE X b tb) (hm : behindInMarks op b = false) : PT X (.Compare a [op] [b] pos) (tTest (tOp r ta tb)) := by
  intro pins s σ H Q I h
  refine wpAny_isTrue_Compare1 (thn (ha pins s σ H _ I h) fun v s1 ⟨x, H1, I1, r1, q1⟩ => thn (hb pins s1 σ H1 _ I1 q1) fun u s2 ⟨y, H2, I2, r2, q2⟩ =>
    thn (ho pins s2 σ H2 x y v u _ I2 r1 r2 q2) fun c s3 ⟨z, H3, I3, r3, k, e, q3⟩ => ?_) hm
  subst e
  cases r3
  exact wpAny_truthy_bool ⟨H3, I3, q3⟩
/-- a op1 b op2 c -/
def tChain (r r' : R2) (ta tb tc : TE) : TE := fun σ H Q => ta σ H fun x H1 => tb σ H1 fun y H2 => r x y H2 fun z H3 => ∃ k, z = .bl k ∧
  (if k = true then tc σ H3 fun w' H4 => r' y w' H4 Q else Q (.bl false) H3)
theorem pe_chain {op op' : CmpOp} {r r' : R2} (ho : OpR X (compareOp op) r) (ho' : OpR X (compareOp op') r') (ha : PE X a ta) (hb : PE X b tb) (hc : PE X c tc)
    (hm : lastMarks [op, op'] [b, c] = false := by with_unfolding_all rfl) : PE X (.Compare a [op, op'] [b, c] pos) (tChain r r' ta tb tc) := by
  intro pins s σ H Q I h
  refine Compare_chain (thn (ha pins s σ H _ I h) fun v s1 ⟨x, H1, I1, r1, q1⟩ => chain_link (thn (hb pins s1 σ H1 _ I1 q1) fun u s2 ⟨y, H2, I2, r2, q2⟩ =>
    thn (ho pins s2 σ H2 x y v u _ I2 r1 r2 q2) fun d s3 ⟨z, H3, I3, r3, k, e, q3⟩ => ?_)) hm
  subst e
  cases r3
  refine wpAny_truthy_bool ?_
  cases k with
  | false => exact ite_ff ⟨.bl false, H3, I3, rfl, q3⟩
  | true => exact ite_tt (chain_last (thn (hc pins s3 σ H3 _ I3 q3) fun w' s4 ⟨z', H4, I4, r4, q4⟩ => ho' pins s4 σ H4 y z' u w' Q I4 r2 r4 q4))
theorem pt_chain {op op' : CmpOp} {r r' : R2} (ho : OpR X (compareOp op) r) (ho' : OpR X (compareOp op') r') (ha : PE X a ta) (hb : PE X b tb) (hc : PE X c tc)
    (hm : lastMarks [op, op'] [b, c] = false := by with_unfolding_all rfl) : PT X (.Compare a [op, op'] [b, c] pos) (tTest (tChain r r' ta tb tc)) := by
  intro pins s σ H Q I h
  refine isTrue_chain (thn (ha pins s σ H _ I h) fun v s1 ⟨x, H1, I1, r1, q1⟩ => test_link (thn (hb pins s1 σ H1 _ I1 q1) fun u s2 ⟨y, H2, I2, r2, q2⟩ =>
    thn (ho pins s2 σ H2 x y v u _ I2 r1 r2 q2) fun d s3 ⟨z, H3, I3, r3, k, e, q3⟩ => ?_)) hm
  subst e
  cases r3
  refine wpAny_truthy_bool ?_
  cases k with
  | false =>
    obtain ⟨k', e', q'⟩ := q3
    cases e'
    exact ite_ff ⟨H3, I3, q'⟩
  | true =>
    refine ite_tt (test_last (thn (hc pins s3 σ H3 _ I3 q3) fun w' s4 ⟨z', H4, I4, r4, q4⟩ => thn (ho' pins s4 σ H4 y z' u w' _ I4 r2 r4 q4) fun d' s5 ⟨z2, H5, I5, r5, k2, e2, q5⟩ => ?_))
    subst e2
    cases r5
    exact wpAny_truthy_bool ⟨H5, I5, q5⟩

/-! ### truth -/
/-- a value's truth by the abstract heap -/
def TruV (K : PySem.W.Frag) (x : V) (H : Hp) (k : Bool) : Prop :=
  match x with
  | .non => k = false
  | .bl b => k = b
  | .int i => k = (i != 0)
  | .str y => y.length ≤ sizeLine ∧ k = ((y.length : Int) != 0)
  | .byt y => y.size ≤ sizeLine ∧ k = ((y.size : Int) != 0)
  | .ref p => (∃ xs, SqL K H p xs ∧ k = !xs.isEmpty) ∨ (∃ xs, SqT K H p xs ∧ k = !xs.isEmpty) ∨ ∃ kvs, H p = some (.dK kvs) ∧ k = !kvs.isEmpty
  | _ => False
theorem isEmpty_kv {κ : Type} {kvs : List (κ × V)} {vs : List (κ × Value)} (r : KV kvs vs) : (!vs.isEmpty) = !kvs.isEmpty := by
  cases r <;> rfl
theorem isEmpty_of {xs : List V} {its : List Value} (r : Vals xs its) : (!its.toArray.isEmpty) = !xs.isEmpty := by
  cases r <;> simp
theorem line63 : (sizeLine : Nat) < 2 ^ 63 := by rw [sizeLine_eq]; decide
theorem tru_ok : TruR X (fun x H Q => ∃ k, TruV X.K x H k ∧ Q k H) := by
  intro pins s σ H x v Q I rx h
  obtain ⟨k, e, q⟩ := h
  have hl := line63
  have hs : sizeLine = 16777216 := sizeLine_eq
  cases x with
  | non =>
    cases rx
    have e' : k = false := e
    subst e'
    exact truthy_none ⟨H, I, q⟩
  | bl b =>
    cases rx
    have e' : k = b := e
    subst e'
    exact wpAny_truthy_bool ⟨H, I, q⟩
  | int i =>
    obtain ⟨t, rfl⟩ := rx
    have e' : k = (i != 0) := e
    subst e'
    exact PySem.P.truthy_int ⟨H, I, q⟩
  | str y =>
    obtain ⟨t, rfl⟩ := rx
    obtain ⟨hy, e'⟩ : y.length ≤ sizeLine ∧ k = ((y.length : Int) != 0) := e
    subst e'
    exact PySem.P.truthy_str (by omega) ⟨H, I.tok _, q⟩
  | byt y =>
    obtain ⟨t, rfl⟩ := rx
    obtain ⟨hy, e'⟩ : y.size ≤ sizeLine ∧ k = ((y.size : Int) != 0) := e
    subst e'
    exact PySem.W.truthy_bytes (by omega) ⟨H, I.tok _, q⟩
  | ref p =>
    cases rx
    have e' : (∃ xs, SqL X.K H p xs ∧ k = !xs.isEmpty) ∨ (∃ xs, SqT X.K H p xs ∧ k = !xs.isEmpty) ∨ ∃ kvs, H p = some (.dK kvs) ∧ k = !kvs.isEmpty := e
    rcases e' with ⟨xs, hx, e'⟩ | ⟨xs, hx, e'⟩ | ⟨kvs, hx, e'⟩
    · subst e'
      obtain ⟨its, r, pl, hz⟩ := I.list hx
      have hlen := r.length
      exact wpAny_truthy_list pl.isList (by simp only [List.size_toArray]; omega) ⟨H, I.tok _, by rw [isEmpty_of r]; exact q⟩
    · subst e'
      obtain ⟨its, r, pl, hz⟩ := I.tuple hx
      have hlen := r.length
      exact truthy_tuple pl (by simp only [List.size_toArray]; omega) ⟨H, I.tok _, by rw [isEmpty_of r]; exact q⟩
    · subst e'
      obtain ⟨hz, hS, vs, r, m⟩ : kvs.length ≤ sizeLine ∧ (p == sysModules) = false ∧ ∃ vs, KV kvs vs ∧ s.heap.DictOf (mixKind X.prog X.w) p vs := I.hok p _ hx
      have hlen : kvs.length = vs.length := Paired.length r
      exact wpAny_truthy_dict hS m (by omega) ⟨H, I.tok _, by rw [isEmpty_kv r]; exact q⟩
  | _ => exact (show False from e).elim
/-- any expression whose test is its value's truth (a name, a call, a subscript, a field ..: he by fun _ => rfl) -/
theorem pt_truth (ha : PE X a ta) (he : ∀ whole, isTrue a X.env whole = (do let v ← whole; standAt a.pos; holding [v] (truthy v))) :
    PT X a (fun σ H Q => ta σ H fun x H' => ∃ k, TruV X.K x H' k ∧ Q k H') := by
  intro pins s σ H Q I h
  exact isTrue_plain (thn (ha pins s σ H _ I h) fun v s1 ⟨x, H1, I1, r1, q1⟩ => tru_ok pins s1 σ H1 x v Q I1 r1 q1) (he _)

/-! ### strs and bytes -/
theorem pe_byt {x : List UInt8} {k : Nat} : PE X (.Constant (.bytes x) k pos) (fun _ H Q => Q (.byt x.toArray) H) := fun _ _ _ H _ I h => PySem.W.Constant_bytes ⟨.byt x.toArray, H, I.tok _, ⟨_, rfl⟩, h⟩
theorem op_add_str : OpR X (binaryOp .Add) (fun x y H Q => ∃ i j, x = .str i ∧ y = .str j ∧ i.length + j.length ≤ sizeLine ∧ Q (.str (i ++ j)) H) := by
  intro pins s σ H x y v u Q I rx ry h
  obtain ⟨i, j, rfl, rfl, hz, q⟩ := h
  obtain ⟨t, rfl⟩ := rx
  obtain ⟨t', rfl⟩ := ry
  exact add_str (fun t' tk => ⟨.str (i ++ j), H, I.tok _, ⟨_, rfl⟩, q⟩) hz
theorem iop_add_str : OpR X (inplaceOp .Add) (fun x y H Q => ∃ i j, x = .str i ∧ y = .str j ∧ i.length + j.length ≤ sizeLine ∧ Q (.str (i ++ j)) H) := by
  intro pins s σ H x y v u Q I rx ry h
  obtain ⟨i, j, rfl, rfl, hz, q⟩ := h
  obtain ⟨t, rfl⟩ := rx
  obtain ⟨t', rfl⟩ := ry
  exact iadd_str (fun t' tk => ⟨.str (i ++ j), H, I.tok _, ⟨_, rfl⟩, q⟩) hz
theorem op_add_byt : OpR X (binaryOp .Add) (fun x y H Q => ∃ i j, x = .byt i ∧ y = .byt j ∧ i.size + j.size ≤ 16777216 ∧ Q (.byt (i ++ j)) H) := by
  intro pins s σ H x y v u Q I rx ry h
  obtain ⟨i, j, rfl, rfl, hz, q⟩ := h
  obtain ⟨t, rfl⟩ := rx
  obtain ⟨t', rfl⟩ := ry
  exact PySem.W.KBy.add_bytes hz (fun t' tk => ⟨.byt (i ++ j), H, I.tok _, ⟨_, rfl⟩, q⟩)

def PlainIxT (b : Expr) : Prop := ∀ o i, subscripted b false o i = operate [o, i] (getItem o i)
/-- s[i], 0 ≤ i < len -/
theorem pe_item_str (ha : PE X a ta) (hb : PE X b tb) (hs : PlainIxT b) :
    PE X (.Subscript a b pos) (tOp (fun x y H Q => ∃ z i c, x = .str z ∧ y = .int i ∧ 0 ≤ i ∧ i < 2 ^ 63 ∧ i < z.length ∧ z.cps[i.toNat]? = some c ∧ Q (.str ⟨#[c]⟩) H) ta tb) := by
  intro pins s σ H Q I h
  refine Subscript_ (binT ha hb I h fun v u s2 x y H2 I2 rx ry q => ?_)
  obtain ⟨z, i, c, rfl, rfl, h0, h63, h1, hc, q⟩ := q
  obtain ⟨t, rfl⟩ := rx
  obtain ⟨t', rfl⟩ := ry
  have e : seqIndex? i z.length = some i.toNat := PySem.StrLaws.seqIndex_nonneg h0 h1
  exact tail_any (typeIs_str s2 z t) slot_str_getitem.lookup (getItem_str (c := c) (by
    have e1 : decide (i < -(2 ^ 63 : Int)) = false := decide_eq_false (by omega)
    have e2 : decide (i ≥ 2 ^ 63) = false := decide_eq_false (by omega)
    rw [e1, e2] <;> rfl) (by rw [e]; exact hc) ⟨.str ⟨#[c]⟩, H2, I2.tok _, ⟨_, rfl⟩, q⟩) (hs _ _)
/-- b[i], 0 ≤ i < len -/
theorem pe_item_byt (ha : PE X a ta) (hb : PE X b tb) (hs : PlainIxT b) :
    PE X (.Subscript a b pos) (tOp (fun x y H Q => ∃ (z : List UInt8) (i : Int), x = .byt z.toArray ∧ y = .int i ∧ z.length ≤ sizeLine ∧ 0 ≤ i ∧ i < z.length ∧ Q (.int ((z.getD i.toNat 0).toNat : Nat)) H) ta tb) := by
  intro pins s σ H Q I h
  refine Subscript_ (binT ha hb I h fun v u s2 x y H2 I2 rx ry q => ?_)
  obtain ⟨z, i, rfl, rfl, hz, h0, h1, q⟩ := q
  obtain ⟨t, rfl⟩ := rx
  obtain ⟨t', rfl⟩ := ry
  have hl : sizeLine = 16777216 := sizeLine_eq
  exact tail_any (PySem.W.typeIs_bytes s2 z.toArray t) PySem.W.FB.slot_bytes_getitem.lookup (PySem.W.getItem_bytes (by omega) h0 h1 ⟨.int ((z.getD i.toNat 0).toNat : Nat), H2, I2.tok _, ⟨_, rfl⟩, q⟩) (hs _ _)

/-! ### scalar builtins, by CallR -/
theorem vals1 {x : V} {us : List Value} (r : Vals [x] us) : ∃ u, us = [u] ∧ RelV x u := by
  cases r with
  | cons r1 r2 => cases r2; exact ⟨_, rfl, r1⟩
theorem vals2 {x y : V} {us : List Value} (r : Vals [x, y] us) : ∃ u w', us = [u, w'] ∧ RelV x u ∧ RelV y w' := by
  cases r with
  | cons r1 r2 =>
    cases r2 with
    | cons r3 r4 => cases r4; exact ⟨_, _, rfl, r1, r3⟩
theorem call_abs : CallR X (.builtin "abs") (fun xs H Q => ∃ i, xs = [.int i] ∧ Q (.int (if i < 0 then -i else i)) H) := by
  intro pins s σ H xs us Q I r h
  obtain ⟨i, rfl, q⟩ := h
  obtain ⟨u, rfl, t, rfl⟩ := vals1 r
  exact call_abs_int fun u tk => ⟨.int (if i < 0 then -i else i), H, I.tok _, ⟨_, rfl⟩, q⟩
theorem call_max2 (hc : X.calm = true) : CallR X (.builtin "max") (fun xs H Q => ∃ i j, xs = [.int i, .int j] ∧ Q (.int (if j > i then j else i)) H) := by
  intro pins s σ H xs us Q I r h
  obtain ⟨i, j, rfl, q⟩ := h
  obtain ⟨u, w', rfl, ⟨t, rfl⟩, ⟨t', rfl⟩⟩ := vals2 r
  refine max_two_ints (I.ok.hd hc) fun h' tk k => ⟨_, H, I.kept k, ?_, q⟩
  by_cases hj : j > i
  · rw [if_pos hj, if_pos hj]; exact ⟨_, rfl⟩
  · rw [if_neg hj, if_neg hj]; exact ⟨_, rfl⟩
theorem call_min2 (hc : X.calm = true) : CallR X (.builtin "min") (fun xs H Q => ∃ i j, xs = [.int i, .int j] ∧ Q (.int (if j < i then j else i)) H) := by
  intro pins s σ H xs us Q I r h
  obtain ⟨i, j, rfl, q⟩ := h
  obtain ⟨u, w', rfl, ⟨t, rfl⟩, ⟨t', rfl⟩⟩ := vals2 r
  refine min_two_ints (I.ok.hd hc) fun h' tk k => ⟨_, H, I.kept k, ?_, q⟩
  by_cases hj : j < i
  · rw [if_pos hj, if_pos hj]; exact ⟨_, rfl⟩
  · rw [if_neg hj, if_neg hj]; exact ⟨_, rfl⟩
theorem call_int1 : CallR X (.type "int") (fun xs H Q => (∃ i, xs = [.int i] ∧ Q (.int i) H) ∨ ∃ k, xs = [.bl k] ∧ Q (.int (if k then 1 else 0)) H) := by
  intro pins s σ H xs us Q I r h
  rcases h with ⟨i, rfl, q⟩ | ⟨k, rfl, q⟩
  · obtain ⟨u, rfl, t, rfl⟩ := vals1 r
    exact call_int_int ⟨.int i, H, I, ⟨_, rfl⟩, q⟩
  · obtain ⟨u, rfl, r1⟩ := vals1 r
    cases r1
    exact call_int_bool ⟨.int (if k then 1 else 0), H, I.tok _, ⟨_, rfl⟩, q⟩
theorem call_bool1 : CallR X (.type "bool") (fun xs H Q => (∃ i, xs = [.int i] ∧ Q (.bl (i != 0)) H) ∨ ∃ k, xs = [.bl k] ∧ Q (.bl k) H) := by
  intro pins s σ H xs us Q I r h
  rcases h with ⟨i, rfl, q⟩ | ⟨k, rfl, q⟩
  · obtain ⟨u, rfl, t, rfl⟩ := vals1 r
    exact call_bool_int ⟨.bl (i != 0), H, I, rfl, q⟩
  · obtain ⟨u, rfl, r1⟩ := vals1 r
    cases r1
    exact call_bool_bool ⟨.bl k, H, I, rfl, q⟩
theorem call_str_int : CallR X (.type "str") (fun xs H Q => ∃ i, xs = [.int i] ∧ i.natAbs.log2 < 1920 ∧ Q (.str (toString i)) H) := by
  intro pins s σ H xs us Q I r h
  obtain ⟨i, rfl, hz, q⟩ := h
  obtain ⟨u, rfl, t, rfl⟩ := vals1 r
  exact PySem.P.str_of_int hz ⟨.str _, H, I.tok _, ⟨_, rfl⟩, q⟩
theorem call_ord : CallR X (.builtin "ord") (fun xs H Q => ∃ x, xs = [.str x] ∧ x.length = 1 ∧ Q (.int (x.cps.getD 0 0 : Nat)) H) := by
  intro pins s σ H xs us Q I r h
  obtain ⟨x, rfl, hz, q⟩ := h
  obtain ⟨u, rfl, t, rfl⟩ := vals1 r
  exact ord_of_one hz ⟨.int _, H, I.tok _, ⟨_, rfl⟩, q⟩
theorem call_chr : CallR X (.builtin "chr") (fun xs H Q => ∃ i, xs = [.int i] ∧ 0 ≤ i ∧ i ≤ 1114111 ∧ Q (.str ⟨#[i.toNat]⟩) H) := by
  intro pins s σ H xs us Q I r h
  obtain ⟨i, rfl, h0, h1, q⟩ := h
  obtain ⟨u, rfl, t, rfl⟩ := vals1 r
  exact chr_of_range h0 h1 ⟨.str _, H, I.tok _, ⟨_, rfl⟩, q⟩
/-- len of a str, a bytes, a list, a tuple -/
def LenV (K : PySem.W.Frag) (x : V) (H : Hp) (n : Nat) : Prop :=
  match x with
  | .str y => y.length ≤ sizeLine ∧ n = y.length
  | .byt y => y.size ≤ sizeLine ∧ n = y.size
  | .ref p => (∃ xs, SqL K H p xs ∧ n = xs.length) ∨ ∃ xs, SqT K H p xs ∧ n = xs.length
  | _ => False
theorem call_len : CallR X (.builtin "len") (fun xs H Q => ∃ x n, xs = [x] ∧ LenV X.K x H n ∧ Q (.int n) H) := by
  intro pins s σ H xs us Q I r h
  obtain ⟨x, n, rfl, e, q⟩ := h
  obtain ⟨u, rfl, rx⟩ := vals1 r
  have hl := line63
  have hs : sizeLine = 16777216 := sizeLine_eq
  cases x with
  | str y =>
    obtain ⟨t, rfl⟩ := rx
    obtain ⟨hy, e'⟩ : y.length ≤ sizeLine ∧ n = y.length := e
    subst e'
    exact len_str (by omega) ⟨.int _, H, I.tok _, ⟨_, rfl⟩, q⟩
  | byt y =>
    obtain ⟨t, rfl⟩ := rx
    obtain ⟨hy, e'⟩ : y.size ≤ sizeLine ∧ n = y.size := e
    subst e'
    exact PySem.W.len_bytes (by omega) ⟨.int _, H, I.tok _, ⟨_, rfl⟩, q⟩
  | ref p =>
    cases rx
    have e' : (∃ xs, SqL X.K H p xs ∧ n = xs.length) ∨ ∃ xs, SqT X.K H p xs ∧ n = xs.length := e
    rcases e' with ⟨xs, hx, e'⟩ | ⟨xs, hx, e'⟩
    · subst e'
      obtain ⟨its, r', pl, hz⟩ := I.list hx
      have hlen := r'.length
      exact Calls.call_len_list pl.isList (by simp only [List.size_toArray]; omega) ⟨.int xs.length, H, I.tok _, ⟨_, by simp only [List.size_toArray]; rw [hlen]⟩, q⟩
    · subst e'
      obtain ⟨its, r', pl, hz⟩ := I.tuple hx
      have hlen := r'.length
      exact len_tuple pl (by simp only [List.size_toArray]; omega) ⟨.int xs.length, H, I.tok _, ⟨_, by simp only [List.size_toArray]; rw [hlen]⟩, q⟩
  | _ => exact (show False from e).elim
/-- divmod: a new tuple -/
theorem call_divmod : CallR X (.builtin "divmod") (fun xs H Q => ∃ i j, xs = [.int i, .int j] ∧ CDiv i j ∧ ∀ p, H p = none → Q (.ref p) (upd H p (.tup [.int (i / j), .int (i % j)]))) := by
  intro pins s σ H xs us Q I r h
  obtain ⟨i, j, rfl, ⟨h1, h2⟩, q⟩ := h
  obtain ⟨u, w', rfl, ⟨t, rfl⟩, ⟨t', rfl⟩⟩ := vals2 r
  refine divmod_int (by omega) ?_ (.inl (PyProof.noPylong_small (by omega)))
  rw [Int.fdiv_eq_ediv_of_nonneg i (by omega), Int.fmod_eq_emod_of_nonneg i (by omega)]
  have hn : H s.heap.objs.size = none := I.hok.fresh (Nat.le_refl _)
  refine ⟨.ref s.heap.objs.size, _, ?_, rfl, q _ hn⟩
  refine I.laid (fun b o e => Heap.get?_push_of_some _ e) (Nat.le_refl _) ⟨by simp only [List.length_cons, List.length_nil]; rw [sizeLine_eq]; decide, [.int (i / j) s.toks, .int (i % j) (s.toks + 1)], .cons ⟨_, rfl⟩ (.cons ⟨_, rfl⟩ .nil), ?_⟩
  exact ⟨_, Heap.get?_push_size s.heap rfl, rfl, 0, rfl⟩
end
end L2

namespace L2
open PySem PySem.Spec PyProof.Rows

/-! ### an instance, its attributes a map -/
structure ObjM (h : Heap) (x dx C : Addr) (mA : Str → Option Value) : Prop where
  obj : h.get? x = some (PySem.W.instObj C dx)
  ns : h.Ns1 dx mA
  ne : dx ≠ x

theorem lookIn_ns {h : Heap} {dx : Addr} {mA : Str → Option Value} (n : h.Ns1 dx mA) : ∃ od, h.get? dx = some od ∧ ∀ name, PySem.W.lookIn name od = some (mA name) := by
  obtain ⟨o, es, ep, ho, hd, hk, _, hm⟩ := n
  refine ⟨o, ho, fun name => ?_⟩
  have e := hm name
  unfold nsFind findBy at e
  rw [← Array.find?_toList] at e
  unfold PySem.W.lookIn
  rw [hd]
  dsimp only
  split
  · rename_i y q
    rw [q] at e
    exact congrArg some e
  · rename_i q
    rw [q] at e
    have a : es.toList.any (·.refKey) = false := by
      rw [List.any_eq_false]
      intro y hy
      obtain ⟨z, t, hkey⟩ := hk y (Array.mem_toList_iff.mp hy)
      simp [DictEntry.refKey, hkey]
    have a' : ¬ es.toList.any (·.refKey) = true := by rw [a]; exact Bool.false_ne_true
    rw [if_neg a']
    exact congrArg some e

theorem ObjM.look {h : Heap} {x dx C : Addr} {mA : Str → Option Value} (I : ObjM h x dx C mA) : ∃ od, PySem.W.InstAt h x (PySem.W.instObj C dx) C (some od) ∧ ∀ name, PySem.W.lookIn name od = some (mA name) :=
  let ⟨od, ho, hl⟩ := lookIn_ns I.ns
  ⟨od, ⟨I.obj, rfl, rfl, ho⟩, hl⟩

section
variable {prog : Program} {w : World} {A : Around} {E : Value → Shared → Prop} {s : Shared} {K : PySem.W.Frag} {x dx C f : Addr} {mA : Str → Option Value} {name : Str} {v : Value}

theorem get_map {expr : Bool} {Q : Value → Shared → Prop} (X : K.In s.heap) (I : ObjM s.heap x dx C mA) (hg : PySem.W.plainGet K C name = true) (hh : PySem.W.hasDictIn K C = true)
    (ha : PySem.W.findIn K (.ref C) name = some none) (hv : mA name = some v) (hv' : PySem.W.handedIn v = true) (h : Q v { s with toks := s.toks + 1 }) :
    wpAny (model prog w) A (getAttr (.ref x) name expr) Q E s := by
  obtain ⟨od, J, hl⟩ := I.look
  exact PySem.W.get_value X J (PySem.W.plainGet_of hg).1 (PySem.W.findObj_own hh ha rfl (by rw [hl, hv])) hv' h

theorem get_const {expr : Bool} {a : Value} {Q : Value → Shared → Prop} (X : K.In s.heap) (I : ObjM s.heap x dx C mA) (hg : PySem.W.plainGet K C name = true) (hh : PySem.W.hasDictIn K C = true)
    (ha : PySem.W.findIn K (.ref C) name = some (some a)) (hn : PySem.W.specialIn K a "__get__" = some none) (hc : PySem.W.copiedNames.contains name = false) (hv : mA name = none) (hv' : PySem.W.handedIn a = true)
    (h : Q a { s with toks := s.toks + 1 }) : wpAny (model prog w) A (getAttr (.ref x) name expr) Q E s := by
  obtain ⟨od, J, hl⟩ := I.look
  exact PySem.W.get_value X J (PySem.W.plainGet_of hg).1 (PySem.W.findObj_cls hh ha hn hv' hc (by rw [hl, hv])) hv' h

theorem get_meth {pl : Sem Bool} {Q : Value × List Value → Shared → Prop} (X : K.In s.heap) (I : ObjM s.heap x dx C mA) (hg : PySem.W.plainGet K C name = true)
    (hf : PySem.W.findIn K (.ref C) name = some (some (.ref f))) (ht : PySem.W.isFn K (.ref f) = true) (hv : mA name = none) (h : Q (.ref f, [.ref x]) s) :
    wpAny (model prog w) A (getMethod (.ref x) name pl) Q E s := by
  obtain ⟨od, J, hl⟩ := I.look
  exact PySem.W.method_fn X J (PySem.W.plainGet_of hg).1 (PySem.W.plainGet_of hg).2 hf (beq_iff_eq.mp ht) (by show (PySem.W.lookIn name od).map (·.isSome) = some false; rw [hl, hv]; rfl) h

theorem set_map {ns : List Str} {Q : Unit → Shared → Prop} (X : K.In s.heap) (I : ObjM s.heap x dx C mA)
    (hs : PySem.W.findIn K (.ref C) "__setattr__" = some (some (.builtin "object.__setattr__"))) (hp : PySem.W.plainOver K C = true) (ht : PySem.W.takerIn K C name = some none) (hh : PySem.W.hasDictIn K C = true)
    (hw : PySem.Within mA ns) (hsz : ns.length ≤ sizeLine)
    (h : ∀ h', ObjM h' x dx C (fun y => if y = name then some v else mA y) → Heap.SameBut dx s.heap h' → Q () { s with heap := h', toks := s.toks + 2 }) :
    wpAny (model prog w) A (setAttr (.ref x) name v) Q E s := by
  obtain ⟨od, J, hl⟩ := I.look
  refine PySem.W.set_plain X J hs (PySem.W.osa_open (s := { s with toks := s.toks + 1 }) (r := none) X J hp ht fun b => ?_)
  obtain ⟨cd, hc, hd'⟩ := PySem.W.any_some hh
  have hx : s.heap.get? x = some ⟨.ref C, some dx, .plain, #[]⟩ := I.obj
  refine wpAny_bind (wpAny_pure (wpAny_bind (wpAny_bind (wpAny_loadPart hx (wpAny_bind (PySem.W.Looks.here (s := { s with toks := s.toks + 1 }) (PySem.W.looks_clsIn X hc) ?_))))))
  rw [hd']
  refine wpAny_pure (a := some dx) (wpAny_bind (wpAny_pure (wpAny_bind ?_)))
  refine wpAny_nsSet1 (s := { s with toks := s.toks + 1 }) I.ns fun h' hn2 hs2 => ?_
  obtain ⟨oD, esD, epD, hoD, hdD, hcD⟩ := hn2.count (PySem.Within.cons name v hw)
  refine wpAny_bind (wpAny_lookBehind hoD (by rw [hdD]; exact pastItsLine_dict (Nat.le_trans hcD (by rw [List.length_cons]; omega))) ?_)
  exact wpAny_pure (h _ ⟨(hs2.2 _ (Ne.symm I.ne)).trans I.obj, hn2, I.ne⟩ hs2)

/-- C(..): the dict at the heap's end, the instance behind it; then its __init__ -/
theorem make_map {R : Result → Shared → Prop} {vs : List Value} {kw : List (Str × Value)} (X : K.In s.heap) (hm : PySem.W.makesIn K C = true)
    (hi : PySem.W.findIn K (.ref C) "__init__" = some (some (.ref f))) (hf : PySem.W.typeIn K (.ref f) = some (.type "function"))
    (h : codeAny (model prog w) (A.under (.builtin "type.__call__" ⟨.ref C :: vs, kw⟩)) (.call (.ref f) ⟨.ref (s.heap.objs.size + 1) :: vs, kw⟩) (PySem.W.InitBack (s.heap.objs.size + 1) R)
      { s with heap := (s.heap.push PySem.W.emptyDict).push (PySem.W.instObj C s.heap.objs.size) }) :
    codeAny (model prog w) A (.call (.ref C) ⟨vs, kw⟩) R s := by
  obtain ⟨hh, g, d, t, os⟩ := s
  exact PySem.W.make_core (PySem.W.makes_of X hm) (PySem.W.looks_findIn X hi) (fun self => PySem.W.bind_fn X self hf) (.inl rfl) h
/-- C() where there is no __init__ but object's -/
theorem make_map0 {R : Result → Shared → Prop} (X : K.In s.heap) (hm : PySem.W.makesIn K C = true)
    (hi : PySem.W.findIn K (.ref C) "__init__" = some (some (.builtin "object.__init__")))
    (hb : ∀ self, PySem.W.Looks (model prog w) s.heap (bindSpecial (.builtin "object.__init__") self) (.builtin "object.__init__", [self]))
    (h : codeAny (model prog w) (A.under (.builtin "type.__call__" ⟨[.ref C], []⟩)) (.call (.builtin "object.__init__") ⟨[.ref (s.heap.objs.size + 1)], []⟩) (PySem.W.InitBack (s.heap.objs.size + 1) R)
      { s with heap := (s.heap.push PySem.W.emptyDict).push (PySem.W.instObj C s.heap.objs.size) }) :
    codeAny (model prog w) A (.call (.ref C) ⟨[], []⟩) R s := by
  obtain ⟨hh, g, d, t, os⟩ := s
  exact PySem.W.make_core (PySem.W.makes_of X hm) (PySem.W.looks_findIn X hi) hb (.inr ⟨rfl, rfl⟩) h
end

/-! ### the attributes as a list of pairs -/
def putF (f : Str) (v : V) : List (Str × V) → List (Str × V)
  | [] => [(f, v)]
  | (g, x) :: r => if g = f then (g, v) :: r else (g, x) :: putF f v r
theorem lookup_putF (f g : Str) (v : V) : ∀ fs : List (Str × V), (putF f v fs).lookup g = if g = f then some v else fs.lookup g
  | [] => by
    show List.lookup g [(f, v)] = _
    by_cases h : g = f
    · have hb : (g == f) = true := beq_iff_eq.mpr h
      simp only [List.lookup, hb, if_pos h]
    · have hb : (g == f) = false := beq_eq_false_iff_ne.mpr h
      simp only [List.lookup, hb, if_neg h]
  | (k, x) :: r => by
    have ih := lookup_putF f g v r
    rw [show putF f v ((k, x) :: r) = (if k = f then (k, v) :: r else (k, x) :: putF f v r) from rfl]
    by_cases hk : k = f
    · rw [if_pos hk]
      by_cases h : g = k
      · have hb : (g == k) = true := beq_iff_eq.mpr h
        simp only [List.lookup, hb, if_pos (h.trans hk)]
      · have hb : (g == k) = false := beq_eq_false_iff_ne.mpr h
        simp only [List.lookup, hb, if_neg (fun e : g = f => h (e.trans hk.symm))]
    · rw [if_neg hk]
      by_cases h : g = k
      · have hb : (g == k) = true := beq_iff_eq.mpr h
        simp only [List.lookup, hb, if_neg (fun e : g = f => hk (h.symm.trans e))]
      · have hb : (g == k) = false := beq_eq_false_iff_ne.mpr h
        simp only [List.lookup, hb]
        exact ih
theorem keys_putF (f : Str) (v : V) : ∀ fs : List (Str × V), f ∈ (putF f v fs).map (·.1) ∧ ∀ g, g ∈ fs.map (·.1) → g ∈ (putF f v fs).map (·.1)
  | [] => ⟨by simp [putF], fun g h => by simp at h⟩
  | (k, x) :: r => by
    obtain ⟨i1, i2⟩ := keys_putF f v r
    rw [show putF f v ((k, x) :: r) = (if k = f then (k, v) :: r else (k, x) :: putF f v r) from rfl]
    by_cases hk : k = f
    · rw [if_pos hk]
      subst hk
      exact ⟨by simp, fun g h => by simpa using h⟩
    · rw [if_neg hk]
      refine ⟨?_, fun g h => ?_⟩
      · rw [List.map_cons]
        exact List.mem_cons_of_mem _ i1
      · rw [List.map_cons] at h ⊢
        rcases List.mem_cons.mp h with e | e
        · exact List.mem_cons.mpr (.inl e)
        · exact List.mem_cons_of_mem _ (i2 g e)
theorem length_putF (f : Str) (v : V) : ∀ fs : List (Str × V), (putF f v fs).length ≤ fs.length + 1
  | [] => by simp [putF]
  | (k, x) :: r => by
    have ih := length_putF f v r
    rw [show putF f v ((k, x) :: r) = (if k = f then (k, v) :: r else (k, x) :: putF f v r) from rfl]
    by_cases hk : k = f
    · rw [if_pos hk, List.length_cons, List.length_cons]; omega
    · rw [if_neg hk, List.length_cons, List.length_cons]; omega

theorem RelO.some_of {v : V} {o : Option Value} (r : RelO (some v) o) : ∃ u, o = some u ∧ RelV v u := by
  cases o with
  | none => exact (show False from r).elim
  | some u => exact ⟨u, rfl, r⟩
theorem RelO.none_of {o : Option Value} (r : RelO none o) : o = none := by
  cases o with
  | none => rfl
  | some u => exact (show False from r).elim
theorem handed_of {v : V} {u : Value} (r : RelV v u) : PySem.W.handedIn u = true := by
  cases v with
  | non => cases (show u = Value.none from r); rfl
  | bl b => cases (show u = Value.bool b from r); rfl
  | int i => obtain ⟨t, e⟩ := (show ∃ t, u = Value.int i t from r); cases e; rfl
  | str x => obtain ⟨t, e⟩ := (show ∃ t, u = Value.str x t from r); cases e; rfl
  | byt b => obtain ⟨t, e⟩ := (show ∃ t, u = Value.bytes b t from r); cases e; rfl
  | flt b => obtain ⟨t, e⟩ := (show ∃ t, u = Value.float b t from r); cases e; rfl
  | ref a => cases (show u = Value.ref a from r); rfl
  | ty n => cases (show u = Value.type n from r); rfl

section
variable {P : Program} {w : World} {H H' : Hp} {h h' : Heap} {a C dx : Addr} {fs fs' : List (Str × V)}
theorem ins_get (hok : HOk P w H h) (e : H a = some (.ins C dx fs)) : ∃ mA, ObjM h a dx C mA ∧ (∀ f, RelO (fs.lookup f) (mA f)) ∧ PySem.Within mA (fs.map (·.1)) ∧ fs.length ≤ 1000 ∧ H dx = some (.own a) := by
  obtain ⟨d, z, ne, ob, mA, n, r, q⟩ := (show ObjOk P w H h a (.ins C dx fs) from hok a _ e)
  exact ⟨mA, ⟨ob, n, ne⟩, r, q, z, d⟩
end

/-! ### what of the text a class must have -/
structure Cls (K : PySem.W.Frag) (C : Addr) : Prop where
  pg : PySem.W.plainGet K C Str.empty = true
  hd : PySem.W.hasDictIn K C = true
  po : PySem.W.plainOver K C = true
  sa : PySem.W.findIn K (.ref C) "__setattr__" = some (some (.builtin "object.__setattr__"))
theorem Cls.get {K : PySem.W.Frag} {C : Addr} (c : Cls K C) (f : Str) : PySem.W.plainGet K C f = true := c.pg
/-- no class of it has the name -/
def NoAttr (K : PySem.W.Frag) (C : Addr) (f : Str) : Prop := PySem.W.findIn K (.ref C) f = some none
theorem NoAttr.taker {K : PySem.W.Frag} {C : Addr} {f : Str} (n : NoAttr K C f) : PySem.W.takerIn K C f = some none := by
  unfold PySem.W.takerIn
  rw [show PySem.W.findIn K (.ref C) f = some none from n]
  rfl
/-- a constant of the class -/
structure Con (K : PySem.W.Frag) (C : Addr) (f : Str) (v : V) (u : Value) : Prop where
  at_ : PySem.W.findIn K (.ref C) f = some (some u)
  rel : RelV v u
  get : PySem.W.specialIn K u "__get__" = some none
  cp : PySem.W.copiedNames.contains f = false
/-- a method: a plain def of the class or of one above it -/
structure Meth (K : PySem.W.Frag) (C : Addr) (m : Str) (f : Addr) : Prop where
  at_ : PySem.W.findIn K (.ref C) m = some (some (.ref f))
  fn : PySem.W.isFn K (.ref f) = true
  kp : PySem.W.keepIn K (.ref f) = true

section
variable {X : Cx} {pins : List (Addr × Obj)} {σ : St} {H : Hp} {s : Shared} {a C dx : Addr} {fs : List (Str × V)} {f : Str} {v : V} {A : Around} {E : Value → Shared → Prop}

theorem getattr_ok {b : Bool} {Q : Value → Shared → Prop} (I : Inv X pins σ H s) (e : H a = some (.ins C dx fs)) (c : Cls X.K C) (n : NoAttr X.K C f) (l : fs.lookup f = some v)
    (h : ∀ u s', Inv X pins σ H s' → RelV v u → Q u s') : wpAny (model X.prog X.w) A (getAttr (.ref a) f b) Q E s := by
  obtain ⟨mA, O, r, _, _, _⟩ := ins_get I.hok e
  obtain ⟨u, hu, ru⟩ := RelO.some_of (v := v) (o := mA f) (by rw [← l]; exact r f)
  exact get_map I.kIn O (c.get f) c.hd n hu (handed_of ru) (h u _ (I.tok _) ru)

theorem getcon_ok {b : Bool} {u : Value} {Q : Value → Shared → Prop} (I : Inv X pins σ H s) (e : H a = some (.ins C dx fs)) (c : Cls X.K C) (k : Con X.K C f v u) (l : fs.lookup f = none)
    (h : ∀ s', Inv X pins σ H s' → Q u s') : wpAny (model X.prog X.w) A (getAttr (.ref a) f b) Q E s := by
  obtain ⟨mA, O, r, _, _, _⟩ := ins_get I.hok e
  have hn : mA f = none := RelO.none_of (by rw [← l]; exact r f)
  exact get_const I.kIn O (c.get f) c.hd k.at_ k.get k.cp hn (handed_of k.rel) (h _ (I.tok _))

theorem getmeth_ok {m : Str} {g : Addr} {pl : Sem Bool} {Q : Value × List Value → Shared → Prop} (I : Inv X pins σ H s) (e : H a = some (.ins C dx fs)) (c : Cls X.K C) (k : Meth X.K C m g) (l : fs.lookup m = none)
    (h : Q (.ref g, [.ref a]) s) : wpAny (model X.prog X.w) A (getMethod (.ref a) m pl) Q E s := by
  obtain ⟨mA, O, r, _, _, _⟩ := ins_get I.hok e
  have hn : mA m = none := RelO.none_of (by rw [← l]; exact r m)
  exact get_meth I.kIn O (c.get m) k.at_ k.fn hn h

theorem setattr_ok {y : V} {u : Value} {Q : Unit → Shared → Prop} (I : Inv X pins σ H s) (e : H a = some (.ins C dx fs)) (c : Cls X.K C) (n : NoAttr X.K C f) (hl : fs.length < 1000) (ry : RelV y u)
    (h : ∀ s', Inv X pins σ (upd H a (.ins C dx (putF f y fs))) s' → Q () s') : wpAny (model X.prog X.w) A (setAttr (.ref a) f u) Q E s := by
  obtain ⟨mA, O, r, wi, _, ho⟩ := ins_get I.hok e
  have hz : (fs.map (·.1)).length ≤ sizeLine := by rw [List.length_map, sizeLine_eq]; omega
  refine set_map I.kIn O c.sa c.po n.taker c.hd wi hz fun h' O' sb => h _ ?_
  have hd : ∃ o, h'.get? dx = some o := let ⟨o, _, _, e', _⟩ := O'.ns; ⟨o, e'⟩
  refine I.write (x := a) (e := dx) (by rw [e]; exact True.intro) (.inr ho) (fun b q hb z => (sb.2 b hb).trans z) hd ?_
  refine ⟨by rw [upd_ne O.ne]; exact ho, ?_, O.ne, O'.obj, _, O'.ns, fun g => ?_, fun g hg => ?_⟩
  · have := length_putF f y fs; omega
  · show RelO ((putF f y fs).lookup g) (if g = f then some u else mA g)
    rw [lookup_putF]
    by_cases q : g = f
    · rw [if_pos q, if_pos q]; exact ry
    · rw [if_neg q, if_neg q]; exact r g
  · by_cases q : g = f
    · rw [q]; exact (keys_putF f y fs).1
    · refine (keys_putF f y fs).2 g (wi g fun z => hg ?_)
      show (if g = f then some u else mA g) = none
      rw [if_neg q]; exact z

/-- a new instance, tracked, without attributes -/
theorem Inv.made (I : Inv X pins σ H s) : Inv X pins σ (upd (upd H s.heap.objs.size (.own (s.heap.objs.size + 1))) (s.heap.objs.size + 1) (.ins C s.heap.objs.size []))
    { s with heap := (s.heap.push PySem.W.emptyDict).push (PySem.W.instObj C s.heap.objs.size) } := by
  have e1 : (s.heap.push PySem.W.emptyDict).get? s.heap.objs.size = some PySem.W.emptyDict := Heap.get?_push_size s.heap rfl
  have e2 : ((s.heap.push PySem.W.emptyDict).push (PySem.W.instObj C s.heap.objs.size)).get? (s.heap.objs.size + 1) = some (PySem.W.instObj C s.heap.objs.size) := by
    have := Heap.get?_push_size (s.heap.push PySem.W.emptyDict) (o := PySem.W.instObj C s.heap.objs.size) rfl
    rwa [Heap.size_push] at this
  have e3 : (s.heap.push PySem.W.emptyDict).Ns s.heap.objs.size (fun _ => none) := ⟨PySem.W.emptyDict, #[], _, e1, rfl, (fun e he => absurd he (by simp)), fun _ => rfl⟩
  have I1 := I.laid (a := s.heap.objs.size) (o := .own (s.heap.objs.size + 1)) (h' := s.heap.push PySem.W.emptyDict) (t' := s.toks) (fun b u q => Heap.get?_push_of_some _ q) (Nat.le_refl _) ⟨_, e1⟩
  refine I1.laid (a := s.heap.objs.size + 1) (o := .ins C s.heap.objs.size []) (t' := s.toks) (fun b u q => Heap.get?_push_of_some _ q) (Nat.le_of_eq (Heap.size_push _ _)) ?_
  have ne : s.heap.objs.size ≠ s.heap.objs.size + 1 := Nat.ne_of_lt (Nat.lt_succ_self _)
  refine ⟨by rw [upd_ne ne, upd_same], Nat.zero_le _, ne, e2, fun _ => none, (Heap.Ns1.of_empty e3).at fun o q => Heap.get?_push_of_some _ q, fun _ => True.intro, fun y hy => absurd rfl hy⟩

/-- e.f where nothing but the object is asked: through attributeBase (super) and the last hold -/
theorem attr_of {prog : Program} {w : World} {env : Env} {e : Expr} {f : Str} {pos : Pos} {s : Shared} {Q : Value → Shared → Prop} (hb : attributeBase e f env (eval e env) = eval e env)
    (h : wpAny (model prog w) A (eval e env) (fun o s₁ => wpAny (model prog w) A (getAttr o f true) Q E s₁) E s) : wpAny (model prog w) A (eval (.Attribute e f pos) env) Q E s :=
  Attribute_any_ h (by rw [arm_eval_Attribute, hb])
end

/-! ### readings and rules -/
/-- e.f, an attribute of the instance -/
def tFld (K : PySem.W.Frag) (ta : TE) (f : Str) : TE := fun σ H Q => ta σ H fun x H1 => ∃ a C dx fs v, x = .ref a ∧ H1 a = some (.ins C dx fs) ∧ Cls K C ∧ NoAttr K C f ∧ fs.lookup f = some v ∧ Q v H1
/-- e.f, a constant of the class -/
def tCon (K : PySem.W.Frag) (ta : TE) (f : Str) : TE := fun σ H Q => ta σ H fun x H1 => ∃ a C dx fs v u, x = .ref a ∧ H1 a = some (.ins C dx fs) ∧ Cls K C ∧ Con K C f v u ∧ fs.lookup f = none ∧ Q v H1
/-- e.f = value -/
def sFld (K : PySem.W.Frag) (ta tv : TE) (f : Str) : TS := fun D σ H => tv σ H fun y H1 => ta σ H1 fun x H2 => ∃ a C dx fs, x = .ref a ∧ H2 a = some (.ins C dx fs) ∧ Cls K C ∧ NoAttr K C f ∧ fs.length < 1000 ∧
  D.nx σ (upd H2 a (.ins C dx (putF f y fs)))
/-- an augmented operator on two values -/
def InOp (X : Cx) (op : Operator) (rd : V → V → Hp → VK → Prop) : Prop :=
  ∀ (pins : List (Addr × Obj)) (s : Shared) (σ : St) (H : Hp) (x y : V) (u v : Value) (Q : VK), Inv X pins σ H s → RelV x u → RelV y v → rd x y H Q → wpAny (model X.prog X.w) X.A (inplaceOp op u v) (EP X pins σ Q) X.xe s
/-- e.f op= value -/
def sFldAug (K : PySem.W.Frag) (ta tv : TE) (rd : V → V → Hp → VK → Prop) (f : Str) : TS := fun D σ H => ta σ H fun x H1 => ∃ a C dx fs v, x = .ref a ∧ H1 a = some (.ins C dx fs) ∧ Cls K C ∧ NoAttr K C f ∧ fs.lookup f = some v ∧
  tv σ H1 fun y H2 => rd v y H2 fun z H3 => ∃ dx' fs', H3 a = some (.ins C dx' fs') ∧ fs'.length < 1000 ∧ D.nx σ (upd H3 a (.ins C dx' (putF f z fs')))

section
variable {X : Cx} {o e value : Expr} {f : Str} {pos pos' tpos : Pos} {ta tv : TE}
theorem pe_fld (he : PE X e ta) (hb : attributeBase e f X.env (eval e X.env) = eval e X.env) : PE X (.Attribute e f pos) (tFld X.K ta f) := by
  intro pins s σ H Q I h
  refine attr_of hb (thn (he pins s σ H _ I h) fun u s1 ⟨x, H1, I1, rx, a, C, dx, fs, v, ex, ea, c, n, l, q⟩ => ?_)
  subst ex
  obtain rfl : u = Value.ref a := rx
  exact getattr_ok I1 ea c n l fun u' s2 I2 ru => ⟨v, H1, I2, ru, q⟩
theorem pe_con (he : PE X e ta) (hb : attributeBase e f X.env (eval e X.env) = eval e X.env) : PE X (.Attribute e f pos) (tCon X.K ta f) := by
  intro pins s σ H Q I h
  refine attr_of hb (thn (he pins s σ H _ I h) fun u s1 ⟨x, H1, I1, rx, a, C, dx, fs, v, u0, ex, ea, c, k, l, q⟩ => ?_)
  subst ex
  obtain rfl : u = Value.ref a := rx
  exact getcon_ok I1 ea c k l fun s2 I2 => ⟨v, H1, I2, k.rel, q⟩
theorem ps_fld (ha : PE X o ta) (hv : PE X value tv) (hs : swapsWith value (some (.Attribute o f pos')) pos.line X.env = pure false) : PS X (.Assign [.Attribute o f pos'] value pos) (sFld X.K ta tv f) := by
  intro pins s σ H D I h
  refine plainObj_wpAny_Assign_Attribute (thn (hv pins s σ H _ I h) fun u s1 ⟨y, H1, I1, ry, q⟩ => thn (ha pins s1 σ H1 _ I1 q) fun ov s2 ⟨x, H2, I2, rx, a, C, dx, fs, ex, ea, c, n, l, q2⟩ => ?_) hs
  subst ex
  obtain rfl : ov = Value.ref a := rx
  exact setattr_ok I2 ea c n l ry fun s3 I3 => ⟨σ, _, I3, q2⟩
theorem ps_fldaug {op : Operator} {rd : V → V → Hp → VK → Prop} (ha : PE X o ta) (hv : PE X value tv) (hop : InOp X op rd) : PS X (.AugAssign (.Attribute o f tpos) op value pos) (sFldAug X.K ta tv rd f) := by
  intro pins s σ H D I h
  refine wpAny_AugAssign_AttributeAny (thn (ha pins s σ H _ I h) fun ov s1 ⟨x, H1, I1, rx, a, C, dx, fs, v, ex, ea, c, n, l, q⟩ => ?_)
  subst ex
  obtain rfl : ov = Value.ref a := rx
  refine getattr_ok I1 ea c n l fun u s2 I2 ru => thn (hv pins s2 σ H1 _ I2 q) fun w3 s3 ⟨y, H2, I3, ry, q3⟩ => thn (hop pins s3 σ H2 v y u w3 _ I3 ru ry q3) fun w4 s4 ⟨z, H3, I4, rz, dx', fs', ea', l', q4⟩ => ?_
  exact setattr_ok I4 ea' c n l' rz fun s5 I5 => ⟨σ, _, I5, q4⟩
def rAdd : V → V → Hp → VK → Prop := fun x y H Q => ∃ i j, x = .int i ∧ y = .int j ∧ Q (.int (i + j)) H
def rSub : V → V → Hp → VK → Prop := fun x y H Q => ∃ i j, x = .int i ∧ y = .int j ∧ Q (.int (i - j)) H
theorem in_add : InOp X .Add rAdd := by
  rintro pins s σ H x y u v Q I rx ry ⟨i, j, rfl, rfl, q⟩
  obtain ⟨t, rfl⟩ := (show ∃ t, u = Value.int i t from rx)
  obtain ⟨t', rfl⟩ := (show ∃ t', v = Value.int j t' from ry)
  exact PyProof.Rows.iadd_int ⟨.int (i + j), H, I.tok _, ⟨_, rfl⟩, q⟩
theorem in_sub : InOp X .Sub rSub := by
  rintro pins s σ H x y u v Q I rx ry ⟨i, j, rfl, rfl, q⟩
  obtain ⟨t, rfl⟩ := (show ∃ t, u = Value.int i t from rx)
  obtain ⟨t', rfl⟩ := (show ∃ t', v = Value.int j t' from ry)
  exact PyProof.Rows.isub_int ⟨.int (i - j), H, I.tok _, ⟨_, rfl⟩, q⟩

/-- what is between an instance and its method: the tree of a method call -/
theorem methcall_of {pl : Sem Bool} {m : Str} {apos : Pos} {args : List Expr} {pins : List (Addr × Obj)} {s : Shared} {σ : St} {H : Hp} {Q : Value → Shared → Prop} {te : TE} (he : PE X e te) (I : Inv X pins σ H s)
    (h : te σ H fun x H1 => ∃ a C dx fs g, x = .ref a ∧ H1 a = some (.ins C dx fs) ∧ Cls X.K C ∧ Meth X.K C m g ∧ fs.lookup m = none ∧
      ∀ s1, Inv X pins σ H1 s1 → wpAny (model X.prog X.w) X.A (callWith pos (.ref g) [.ref a] (backTo pos (starEach args X.env)) (backToKw pos (keywordEach [] X.env))) Q X.xe s1)
    (ht : eval (.Call (.Attribute e m apos) args [] pos) X.env = (do
      let ov ← eval e X.env
      standAt apos.atName
      let (f, first) ← holding [ov] (getMethod ov m pl)
      callWith pos f first (backTo pos (starEach args X.env)) (backToKw pos (keywordEach [] X.env)))) :
    wpAny (model X.prog X.w) X.A (eval (.Call (.Attribute e m apos) args [] pos) X.env) Q X.xe s := by
  refine PySem.W.methodCall_KW (pl := pl) (thn (he pins s σ H _ I h) fun u s1 ⟨x, H1, I1, rx, a, C, dx, fs, g, ex, ea, c, k, l, q⟩ => ?_) ht
  subst ex
  obtain rfl : u = Value.ref a := rx
  exact getmeth_ok I1 ea c k l (q s1 I1)
end

/-! ### isinstance -/
section
variable {X : Cx} {pins : List (Addr × Obj)} {σ : St} {H : Hp} {s : Shared} {A : Around} {E : Value → Shared → Prop} {Q : Value → Shared → Prop} {c : Value} {b : Bool}
/-- the type of a value, as the fragment's deciders take it; for an instance its class -/
inductive TyOf (K : PySem.W.Frag) (H : Hp) : V → Value → Prop where
  | non : TyOf K H .non (.type "NoneType")
  | bl (x : Bool) : TyOf K H (.bl x) (.type "bool")
  | int (i : Int) : TyOf K H (.int i) (.type "int")
  | str (x : Str) : TyOf K H (.str x) (.type "str")
  | flt (x : UInt64) : TyOf K H (.flt x) (.type "float")
  | lst {a : Addr} {xs : List V} (e : H a = some (.lst xs)) : TyOf K H (.ref a) (.type "list")
  | frz {a : Addr} {o : Obj} {xs : List V} (e : H a = some (.frz o (.lst xs))) : TyOf K H (.ref a) (.type "list")
  | tup {a : Addr} {xs : List V} (e : H a = some (.tup xs)) : TyOf K H (.ref a) (.type "tuple")
  | dK {a : Addr} {kvs : List (Key × V)} (e : H a = some (.dK kvs)) : TyOf K H (.ref a) (.type "dict")
  | dT {a : Addr} {kvs : List (List Key × V)} (e : H a = some (.dT kvs)) : TyOf K H (.ref a) (.type "dict")
  | ins {a C dx : Addr} {fs : List (Str × V)} (e : H a = some (.ins C dx fs)) (cl : Cls K C) (ha : PySem.W.findIn K (.ref C) "__class__" = some (some (.builtin "object.__class__")))
      (hn : PySem.W.specialIn K (.builtin "object.__class__") "__get__" = some (some (.builtin "getset_descriptor.__get__"))) (htk : PySem.W.takesIn K (.builtin "object.__class__") = some true)
      (hm : PySem.W.mroIn K C (.type "object") = some true) : TyOf K H (.ref a) (.ref C)
/-- isinstance(x, c) for one class c, a built-in or an own one: kitOne's answer -/
theorem isinst_ok {x : V} {u t : Value} (I : Inv X pins σ H s) (rx : RelV x u) (ty : TyOf X.K H x t) (e : PySem.W.kitOne X.K t c = some b) (h : ∀ tk, Q (.bool b) { s with toks := tk }) :
    wpAny (model X.prog X.w) A (call (.builtin "isinstance") [u, c]) Q E s := by
  cases ty with
  | non => cases (show u = Value.none from rx); exact PySem.W.kia_one PySem.W.kitx_none I.kIn True.intro e (fun z => nomatch z) h
  | bl y => cases (show u = Value.bool y from rx); exact PySem.W.kia_one PySem.W.kitx_bool I.kIn True.intro e (fun z => nomatch z) h
  | int i => obtain ⟨t, q⟩ := (show ∃ t, u = Value.int i t from rx); cases q; exact PySem.W.kia_one PySem.W.kitx_int I.kIn True.intro e (fun z => nomatch z) h
  | str y => obtain ⟨t, q⟩ := (show ∃ t, u = Value.str y t from rx); cases q; exact PySem.W.kia_one PySem.W.kitx_str I.kIn True.intro e (fun z => nomatch z) h
  | flt y => obtain ⟨t, q⟩ := (show ∃ t, u = Value.float y t from rx); cases q; exact PySem.W.kia_one PySem.W.kitx_float I.kIn True.intro e (fun z => nomatch z) h
  | @lst a xs ea =>
    cases (show u = Value.ref a from rx)
    obtain ⟨_, _, n, _, h1⟩ := (show ObjOk X.prog X.w H s.heap a (.lst xs) from I.hok a _ ea)
    exact PySem.W.kia_one PySem.W.kitx_list I.kIn ⟨_, h1, rfl⟩ e (fun z => nomatch z) h
  | @frz a ob xs ea =>
    cases (show u = Value.ref a from rx)
    obtain ⟨_, _, _, n, _, h1⟩ := (show ObjOk X.prog X.w H s.heap a (.frz ob (.lst xs)) from I.hok a _ ea)
    exact PySem.W.kia_one PySem.W.kitx_list I.kIn ⟨_, h1, rfl⟩ e (fun z => nomatch z) h
  | @tup a xs ea =>
    cases (show u = Value.ref a from rx)
    obtain ⟨_, _, _, p⟩ := (show ObjOk X.prog X.w H s.heap a (.tup xs) from I.hok a _ ea)
    obtain ⟨o, h1, h2, _⟩ := p
    exact PySem.W.kia_one PySem.W.kitx_tuple I.kIn ⟨o, h1, h2⟩ e (fun z => nomatch z) h
  | @dK a kvs ea =>
    cases (show u = Value.ref a from rx)
    obtain ⟨_, _, vs, _, p⟩ := (show ObjOk X.prog X.w H s.heap a (.dK kvs) from I.hok a _ ea)
    obtain ⟨o, es, ep, h1, h2, _⟩ := p
    exact PySem.W.kia_one PySem.W.kitx_dict I.kIn ⟨o, h1, h2.1⟩ e (fun z => nomatch z) h
  | @dT a kvs ea =>
    cases (show u = Value.ref a from rx)
    obtain ⟨_, _, xs, _, o, es, ep, h1, h2, _⟩ := (show ObjOk X.prog X.w H s.heap a (.dT kvs) from I.hok a _ ea)
    exact PySem.W.kia_one PySem.W.kitx_dict I.kIn ⟨o, h1, h2.1⟩ e (fun z => nomatch z) h
  | @ins a C dx fs ea cl ha hn htk hm =>
    cases (show u = Value.ref a from rx)
    obtain ⟨mA, O, _⟩ := ins_get I.hok ea
    obtain ⟨od, J, _⟩ := O.look
    exact PySem.W.kia_one (PySem.W.kitx_own (cl.get _) cl.hd ha hn htk hm) I.kIn J e (fun z => nomatch z) h
end
end L2

namespace L2
open PySem PySem.Spec PyProof.Rows

/-! ### room -/
structure Room (k : Nat) (A : Around) : Prop where
  hd : A.handled = none
  dp : A.depth + 3 * k + 5 < recursionLimit
  un : A.units + 16 * k + 200 < cLine
theorem Room.mono {j k : Nat} {A : Around} (r : Room k A) (h : j ≤ k) : Room j A := ⟨r.hd, by have := r.dp; omega, by have := r.un; omega⟩
theorem Room.deeper {k : Nat} {A : Around} (r : Room (k + 1) A) (env : Env) : Room k (A.deeper env) :=
  ⟨r.hd, by have := r.dp; show A.depth + 1 + 3 * k + 5 < _; omega, by have := r.un; show A.units + 3 + 16 * k + 200 < _; omega⟩
theorem Room.in1 {k : Nat} {A : Around} (r : Room (k + 1) A) : Room k A.in1 :=
  ⟨r.hd, by have := r.dp; show A.depth + 3 * k + 5 < _; omega, by have := r.un; show A.units + 1 + 16 * k + 200 < _; omega⟩
theorem make_depth {A : Around} {C : Addr} {us : List Value} {kw : List (Str × Value)} : (A.under (.builtin "type.__call__" ⟨.ref C :: us, kw⟩)).depth = A.depth + 1 := by
  first | rfl | simp [Around.under, Code.weight, Code.isCreation, Code.isGuard, Code.isCaller, Code.frames, Code.isFrame, guardIds]
theorem make_units {A : Around} {C : Addr} {us : List Value} {kw : List (Str × Value)} : (A.under (.builtin "type.__call__" ⟨.ref C :: us, kw⟩)).units = A.units + 1 := by
  first | rfl | simp [Around.under, Code.cUnits, Code.frames, Code.isFrame]
theorem Room.make {k : Nat} {A : Around} (r : Room (k + 1) A) (C : Addr) (us : List Value) (kw : List (Str × Value)) : Room k (A.under (.builtin "type.__call__" ⟨.ref C :: us, kw⟩)) :=
  ⟨r.hd, by have := r.dp; rw [make_depth]; omega, by have := r.un; rw [make_units]; omega⟩
theorem Room.depth {k : Nat} {A : Around} (r : Room k A) : A.depth < recursionLimit := by have := r.dp; omega
theorem Room.units {k : Nat} {A : Around} (r : Room k A) : A.units + 64 < cLine := by have := r.un; omega
theorem Room.units0 {k : Nat} {A : Around} (r : Room k A) : A.units < cLine := by have := r.un; omega

/-! ### argument lists and displays -/
def tNil : TA := fun _ H Q => Q [] H
def tCons (ta : TE) (tr : TA) : TA := fun σ H Q => ta σ H fun x H1 => tr σ H1 fun xs H2 => Q (x :: xs) H2
section
variable {X : Cx} {e : Expr} {es : List Expr} {te : TE} {t : TA} {pos : Pos}
theorem pa_nil : PA X [] tNil := fun _ _ _ _ H Q I h => Calls.spliced_nil ⟨[], H, I, .nil, h⟩
theorem pa_cons (ha : PE X e te) (hr : PA X es t) (hs : starEach (e :: es) X.env = (false, eval e X.env) :: starEach es X.env := by with_unfolding_all rfl) : PA X (e :: es) (tCons te t) := by
  intro pos pins s σ H Q I h
  rw [hs]
  show wpAny _ _ (spliced ((false, eval e X.env) :: backTo pos (starEach es X.env))) _ _ s
  refine Calls.spliced_cons (thn (ha pins s σ H _ I h) fun u s1 ⟨x, H1, I1, r1, q1⟩ => ?_)
  exact thn (hr pos pins s1 σ H1 _ I1 q1) fun us s2 ⟨xs, H2, I2, r2, q2⟩ => ⟨x :: xs, H2, I2, .cons r1 r2, q2⟩

/-- a tuple, a list of written items -/
def tTup (t : TA) : TE := fun σ H Q => t σ H fun xs H1 => xs.length ≤ sizeLine ∧ ∀ p, H1 p = none → Q (.ref p) (upd H1 p (.tup xs))
def tLst (t : TA) : TE := fun σ H Q => t σ H fun xs H1 => xs.length ≤ sizeLine ∧ ∀ p, H1 p = none → Q (.ref p) (upd H1 p (.lst xs))
theorem pe_tup {x1} (h : PA X es t) : PE X (.Tuple es x1 pos) (tTup t) := by
  intro pins s σ H Q I hq
  refine wpAny_Tuple_spliced (thn (h pos pins s σ H _ I hq) fun us s1 ⟨xs, H1, I1, r, z, q⟩ => ⟨by rw [← r.length]; exact z, ?_⟩)
  have hf : H1 s1.heap.objs.size = none := I1.hok.fresh (Nat.le_refl _)
  refine ⟨.ref s1.heap.objs.size, upd H1 s1.heap.objs.size (.tup xs), I1.laid (t' := s1.toks) (fun b u e => Heap.get?_push_of_some _ e) (Nat.le_refl _) ?_, rfl, q _ hf⟩
  exact ⟨z, us, r, ⟨_, Heap.get?_push_size _ rfl, rfl, _, rfl⟩⟩
theorem pe_lst (h : PA X es t) : PE X (.List es pos) (tLst t) := by
  intro pins s σ H Q I hq
  refine wpAny_List_spliced (thn (h pos pins s σ H _ I hq) fun us s1 ⟨xs, H1, I1, r, z, q⟩ => ⟨by rw [← r.length]; exact z, ?_⟩)
  have hf : H1 s1.heap.objs.size = none := I1.hok.fresh (Nat.le_refl _)
  refine ⟨.ref s1.heap.objs.size, upd H1 s1.heap.objs.size (.lst xs), I1.laid (t' := s1.toks) (fun b u e => Heap.get?_push_of_some _ e) (Nat.le_refl _) ?_, rfl, q _ hf⟩
  exact ⟨z, us, 0, r, Heap.get?_push_size _ rfl⟩
end

/-! ### what a def promises -/
/-- a def's promise: the bound arguments in the parameters' order, the heap, the wanted end, the wanted exception -/
abbrev Sp := List V → Hp → VK → XK → Prop
/-- how an exception lies behind a call (file 08 gives it): the callers' frames, abstract heap and state ahead of the call, the wish, the exception, the state -/
abbrev CXT := List Env → Hp → Shared → XK → Value → Shared → Prop

/-- the state at a call -/
structure Env0 (P : Program) (w : World) (K : PySem.W.Frag) (mg : Str → Option Value) (base : Heap) (A : Around) (outer : List Env) (s : Shared) (H : Hp) : Prop where
  frames : A.frames = some outer
  mod : Mod K mg base
  bs : ∀ b o, base.get? b = some o → s.heap.get? b = some o ∧ H b = none
  bsz : base.objs.size ≤ s.heap.objs.size
  funs : s.heap.FunFrames base outer
  frf : ∀ b ∈ frs outer, H b = none
  hok : HOk P w H s.heap
  bare : AllBare s.gens
/-- a call's end -/
def CE (outer : List Env) (P : Program) (w : World) (H : Hp) (s : Shared) (Q : VK) (u : Value) (s' : Shared) : Prop :=
  ∃ v H', s'.os = s.os ∧ AllBare s'.gens ∧ Un (frs outer) [] H H' s.heap s'.heap ∧ HOk P w H' s'.heap ∧ RelV v u ∧ Q v H'
def CR (CX : CXT) (outer : List Env) (P : Program) (w : World) (H : Hp) (s : Shared) (Q : VK) (E : XK) (r : Result) (s' : Shared) : Prop :=
  match r with
  | .ok (.ret u) => CE outer P w H s Q u s'
  | .ok _ => False
  | .error e => CX outer H s E e s'
structure FnOk (P : Program) (w : World) (K : PySem.W.Frag) (mg : Str → Option Value) (base : Heap) (CX : CXT) (k : Nat) (f : Addr) (fd : FuncData) (ps : List Str) (sp : Sp) : Prop where
  len : ∀ vs H Q E, sp vs H Q E → vs.length = ps.length
  run : ∀ (A : Around) (outer : List Env) (s : Shared) (H : Hp) (args : Args) (us : List Value) (vs : List V) (Q : VK) (E : XK), Room k A → Env0 P w K mg base A outer s H → BindsTo s fd args (ps.zip us) → Vals vs us → sp vs H Q E →
    codeAny (model P w) A (.call (.ref f) args) (CR CX outer P w H s Q E) s
theorem FnOk.mono {P : Program} {w : World} {K : PySem.W.Frag} {mg : Str → Option Value} {base : Heap} {CX : CXT} {j k : Nat} {f : Addr} {fd : FuncData} {ps : List Str} {sp : Sp} (F : FnOk P w K mg base CX j f fd ps sp) (h : j ≤ k) :
    FnOk P w K mg base CX k f fd ps sp := ⟨F.len, fun A outer s H args us vs Q E hr => F.run A outer s H args us vs Q E (hr.mono h)⟩
/-- a weaker promise -/
theorem FnOk.imp {P : Program} {w : World} {K : PySem.W.Frag} {mg : Str → Option Value} {base : Heap} {CX : CXT} {k : Nat} {f : Addr} {fd : FuncData} {ps : List Str} {sp sp' : Sp} (F : FnOk P w K mg base CX k f fd ps sp)
    (h : ∀ vs H Q E, sp' vs H Q E → sp vs H Q E) : FnOk P w K mg base CX k f fd ps sp' :=
  ⟨fun vs H Q E q => F.len vs H Q E (h _ _ _ _ q), fun A outer s H args us vs Q E hr he hb hv hs => F.run A outer s H args us vs Q E hr he hb hv (h _ _ _ _ hs)⟩

theorem Env0.make {P : Program} {w : World} {K : PySem.W.Frag} {mg : Str → Option Value} {base : Heap} {A : Around} {outer : List Env} {s : Shared} {H : Hp} (e : Env0 P w K mg base A outer s H) (C : Addr) (us : List Value) (kw : List (Str × Value)) :
    Env0 P w K mg base (A.under (.builtin "type.__call__" ⟨.ref C :: us, kw⟩)) outer s H := ⟨by first | exact e.frames | (simpa [Around.under, Code.envs, Code.isFrame, pushEnvs] using e.frames), e.mod, e.bs, e.bsz, e.funs, e.frf, e.hok, e.bare⟩
theorem Env0.in1 {P : Program} {w : World} {K : PySem.W.Frag} {mg : Str → Option Value} {base : Heap} {A : Around} {outer : List Env} {s : Shared} {H : Hp} (e : Env0 P w K mg base A outer s H) :
    Env0 P w K mg base A.in1 outer s H := ⟨e.frames, e.mod, e.bs, e.bsz, e.funs, e.frf, e.hok, e.bare⟩

section
variable {X : Cx} {pins : List (Addr × Obj)} {σ : St} {H : Hp} {s s' : Shared}
/-- from a body: what a callee wants -/
theorem Inv.env0 (I : Inv X pins σ H s) : Env0 X.prog X.w X.K X.mg X.base X.A X.stack s H :=
  ⟨I.ok.frames, I.ok.mod, I.bs, Nat.le_trans I.ok.bsz I.sz, I.stack, I.stkFree, I.hok, I.bare⟩
/-- behind a call -/
theorem Inv.after {Q : VK} {u : Value} (I : Inv X pins σ H s) (h : CE X.stack X.prog X.w H s Q u s') : EP X pins σ Q u s' := by
  obtain ⟨v, H', os, bare, un, hok, r, q⟩ := h
  obtain ⟨hh, g, d, t, os'⟩ := s'
  obtain rfl : os' = s.os := os
  exact ⟨v, H', I.call (h' := hh) (g' := g) (d' := d) (t' := t) (ch := []) un hok bare (fun b z => absurd z (by simp)), r, q⟩
end

/-! ### calls -/
/-- f(..): the written arguments, then the defaults dvs; E: what is wanted of an exception -/
def tCall (sp : Sp) (dvs : List V) (E : XK) (t : TA) : TE := fun σ H Q => t σ H fun vs H1 => sp (vs ++ dvs) H1 Q E
/-- o.m(..) of an instance of the class at C -/
def tMeth (C : Addr) (m : Str) (sp : Sp) (dvs : List V) (E : XK) (ta : TE) (t : TA) : TE := fun σ H Q => ta σ H fun x H1 => ∃ a dx fs, x = .ref a ∧ H1 a = some (.ins C dx fs) ∧ fs.lookup m = none ∧
  t σ H1 fun vs H2 => sp (x :: (vs ++ dvs)) H2 Q E
/-- C(..): a new instance and its dict, then __init__ -/
def tMake (C : Addr) (sp : Sp) (dvs : List V) (E : XK) (t : TA) : TE := fun σ H Q => t σ H fun vs H1 => ∀ x dx, H1 x = none → H1 dx = none → dx ≠ x →
  sp (.ref x :: (vs ++ dvs)) (upd (upd H1 dx (.own x)) x (.ins C dx [])) (fun v H2 => v = .non ∧ Q (.ref x) H2) E

/-- how the parameters are bound: us the positional arguments, kw the keywords' values by name, ds the defaults that fill up -/
def Binds (K : PySem.W.Frag) (fd : FuncData) (ps : List Str) (ds : List Value) : Prop :=
  ∀ (s : Shared) (us : List Value), K.In s.heap → (us ++ ds).length = ps.length → BindsTo s fd ⟨us, []⟩ (ps.zip (us ++ ds))
/-- every parameter is given -/
theorem Binds.all {K : PySem.W.Frag} {fd : FuncData} {ps : List Str} (h : ∀ us : List Value, us.length = ps.length → bindArgs fd ⟨us, []⟩ = pure (ps.zip us)) : Binds K fd ps [] := fun s us _ hl => by
  rw [List.append_nil] at hl ⊢
  exact .of_eq (h us hl)

/-- an exception of a callee reaches what this body wants of exceptions -/
def Passes (CX : CXT) (X : Cx) (E : XK) : Prop := ∀ (pins : List (Addr × Obj)) (σ : St) (H : Hp) (s : Shared) (e : Value) (s' : Shared), Inv X pins σ H s → CX X.stack H s E e s' → X.xe e s'

section
variable {X : Cx} {CX : CXT} {k : Nat} {f C : Addr} {fd : FuncData} {ps : List Str} {sp : Sp} {dvs : List V} {ds : List Value} {E : XK} {x m : Str} {p pos apos : Pos} {e o : Expr} {es : List Expr} {ta : TE} {t : TA}

/-- the callee runs -/
theorem run_fn {pins : List (Addr × Obj)} {σ : St} {H : Hp} {s : Shared} {Q : VK} {us : List Value} {vs : List V} (F : FnOk X.prog X.w X.K X.mg X.base CX k f fd ps sp) (hr : Room k X.A) (hb : Binds X.K fd ps ds) (hd : Vals dvs ds) (hx : Passes CX X E)
    (I : Inv X pins σ H s) (r : Vals vs us) (h : sp (vs ++ dvs) H Q E) : wpAny (model X.prog X.w) X.A (call (.ref f) us) (EP X pins σ Q) X.xe s := by
  have r2 : Vals (vs ++ dvs) (us ++ ds) := r.append hd
  have hl : (us ++ ds).length = ps.length := by rw [← r2.length]; exact F.len _ _ _ _ h
  refine wpAny_call (codeAny_mono (F.run X.A X.stack s H ⟨us, []⟩ (us ++ ds) (vs ++ dvs) Q E hr I.env0 (hb s us I.kIn hl) r2 h) fun r s' hq => ?_)
  cases r with
  | error e => exact hx pins σ H s e s' I hq
  | ok fl =>
    cases fl with
    | ret u => exact I.after hq
    | next => exact False.elim hq
    | brk => exact False.elim hq
    | cont => exact False.elim hq

theorem pe_call (F : FnOk X.prog X.w X.K X.mg X.base CX k f fd ps sp) (hr : Room k X.A) (hg : Gl X x) (hm : X.mg x = some (.ref f)) (hk : PySem.W.keepIn X.K (.ref f) = true) (hb : Binds X.K fd ps ds) (hd : Vals dvs ds) (hx : Passes CX X E)
    (ha : PA X (e :: es) t) (hdb : (x == ("__debug__" : Str)) = false := by decide) (he : starEach (e :: es) X.env = (false, eval e X.env) :: starEach es X.env := by with_unfolding_all rfl) (hpl : (backTo pos (starEach es X.env)).any (·.1) = false := by with_unfolding_all rfl) :
    PE X (.Call (.Name x p) (e :: es) [] pos) (tCall sp dvs E t) := by
  intro pins s σ H Q I h
  refine wpAny_Call_Name_kw (ld_glob I hg hm ?_ hdb)
  refine PySem.W.callWith_K (h₀ := X.base) I.ok.mod.kin hk (thn (ha pos pins s σ H _ I h) fun us s1 ⟨vs, H1, I1, r, q⟩ => ⟨I1.kIn, ?_⟩) he hpl
  exact run_fn F hr hb hd hx I1 r q
theorem pe_call0 (F : FnOk X.prog X.w X.K X.mg X.base CX k f fd ps sp) (hr : Room k X.A) (hg : Gl X x) (hm : X.mg x = some (.ref f)) (hk : PySem.W.keepIn X.K (.ref f) = true) (hb : Binds X.K fd ps ds) (hd : Vals dvs ds) (hx : Passes CX X E)
    (hdb : (x == ("__debug__" : Str)) = false := by decide) : PE X (.Call (.Name x p) [] [] pos) (tCall sp dvs E tNil) := by
  intro pins s σ H Q I h
  refine wpAny_Call_Name_kw (ld_glob I hg hm ?_ hdb)
  exact PySem.W.callWith_K0 I.kIn hk (run_fn (us := []) F hr hb hd hx I .nil h)

/-- o.m(e, ..) -/
theorem pe_meth {pl : Sem Bool} (he : PE X o ta) (c : Cls X.K C) (hm : Meth X.K C m f) (F : FnOk X.prog X.w X.K X.mg X.base CX k f fd ps sp) (hr : Room k X.A) (hb : Binds X.K fd ps ds) (hd : Vals dvs ds) (hx : Passes CX X E) (ha : PA X (e :: es) t)
    (hst : starEach (e :: es) X.env = (false, eval e X.env) :: starEach es X.env := by with_unfolding_all rfl) (hpl : (backTo pos (starEach es X.env)).any (·.1) = false := by with_unfolding_all rfl)
    (ht : eval (.Call (.Attribute o m apos) (e :: es) [] pos) X.env = (do
      let ov ← eval o X.env
      standAt apos.atName
      let (f, first) ← holding [ov] (getMethod ov m pl)
      callWith pos f first (backTo pos (starEach (e :: es) X.env)) (backToKw pos (keywordEach [] X.env))) := by with_unfolding_all rfl) :
    PE X (.Call (.Attribute o m apos) (e :: es) [] pos) (tMeth C m sp dvs E ta t) := by
  intro pins s σ H Q I h
  refine PySem.W.methodCall_KW (pl := pl) (thn (he pins s σ H _ I h) fun u s1 ⟨x, H1, I1, rx, a, dx, fs, ex, ea, l, q⟩ => ?_) ht
  subst ex
  obtain rfl : u = Value.ref a := rx
  refine getmeth_ok I1 ea c hm l ?_
  refine PySem.W.callWith_K (first := [.ref a]) (h₀ := X.base) I.ok.mod.kin hm.kp (thn (ha pos pins s1 σ H1 _ I1 q) fun us s2 ⟨vs, H2, I2, r, q2⟩ => ⟨I2.kIn, ?_⟩) hst hpl
  exact run_fn (us := .ref a :: us) (vs := .ref a :: vs) F hr hb hd hx I2 (.cons rfl r) q2
/-- o.m() -/
theorem pe_meth0 {pl : Sem Bool} (he : PE X o ta) (c : Cls X.K C) (hm : Meth X.K C m f) (F : FnOk X.prog X.w X.K X.mg X.base CX k f fd ps sp) (hr : Room k X.A) (hb : Binds X.K fd ps ds) (hd : Vals dvs ds) (hx : Passes CX X E)
    (ht : eval (.Call (.Attribute o m apos) [] [] pos) X.env = (do
      let ov ← eval o X.env
      standAt apos.atName
      let (f, first) ← holding [ov] (getMethod ov m pl)
      callWith pos f first (backTo pos (starEach [] X.env)) (backToKw pos (keywordEach [] X.env))) := by with_unfolding_all rfl) :
    PE X (.Call (.Attribute o m apos) [] [] pos) (tMeth C m sp dvs E ta tNil) := by
  intro pins s σ H Q I h
  refine PySem.W.methodCall_KW (pl := pl) (thn (he pins s σ H _ I h) fun u s1 ⟨x, H1, I1, rx, a, dx, fs, ex, ea, l, q⟩ => ?_) ht
  subst ex
  obtain rfl : u = Value.ref a := rx
  refine getmeth_ok I1 ea c hm l ?_
  exact PySem.W.callWith_K0 (first := [.ref a]) I1.kIn hm.kp (run_fn (us := [.ref a]) (vs := [.ref a]) F hr hb hd hx I1 (.cons rfl .nil) q)

/-- what a class must have to be made -/
structure Mk (K : PySem.W.Frag) (C f : Addr) : Prop where
  makes : PySem.W.makesIn K C = true
  init : PySem.W.findIn K (.ref C) "__init__" = some (some (.ref f))
  fn : PySem.W.isFn K (.ref f) = true
  kp : PySem.W.keepIn K (.ref C) = true

theorem run_make {pins : List (Addr × Obj)} {σ : St} {H : Hp} {s : Shared} {Q : VK} {us : List Value} {vs : List V} (M : Mk X.K C f) (F : FnOk X.prog X.w X.K X.mg X.base CX k f fd ps sp) (hr : Room (k + 1) X.A) (hb : Binds X.K fd ps ds) (hd : Vals dvs ds)
    (hx : Passes CX X E) (I : Inv X pins σ H s) (r : Vals vs us)
    (h : ∀ x dx, H x = none → H dx = none → dx ≠ x → sp (.ref x :: (vs ++ dvs)) (upd (upd H dx (.own x)) x (.ins C dx [])) (fun v H2 => v = .non ∧ Q (.ref x) H2) E) :
    wpAny (model X.prog X.w) X.A (call (.ref C) us) (EP X pins σ Q) X.xe s := by
  have hq := h (s.heap.objs.size + 1) s.heap.objs.size (I.hok.fresh (Nat.le_succ _)) (I.hok.fresh (Nat.le_refl _)) (Nat.ne_of_lt (Nat.lt_succ_self _))
  have I2 := Inv.made (C := C) I
  have r2 : Vals (V.ref (s.heap.objs.size + 1) :: (vs ++ dvs)) (Value.ref (s.heap.objs.size + 1) :: (us ++ ds)) := .cons rfl (r.append hd)
  have hl : (Value.ref (s.heap.objs.size + 1) :: us ++ ds).length = ps.length := by
    have e := r2.length
    rw [F.len _ _ _ _ hq] at e
    exact e.symm
  refine wpAny_call (make_map (f := f) I.kIn M.makes M.init (beq_iff_eq.mp M.fn) (codeAny_mono (F.run _ X.stack _ _ ⟨Value.ref (s.heap.objs.size + 1) :: us, []⟩ (Value.ref (s.heap.objs.size + 1) :: (us ++ ds)) _ _ E (hr.make C us [])
    (I2.env0.make C us []) (hb _ (Value.ref (s.heap.objs.size + 1) :: us) I2.kIn hl) r2 hq) fun r s' hq' => ?_))
  cases r with
  | error e => exact hx pins σ _ _ e s' I2 hq'
  | ok fl =>
    cases fl with
    | ret u =>
      obtain ⟨v, H', I3, rv, ev, q3⟩ := I2.after hq'
      subst ev
      exact ⟨rv, ⟨V.ref (s.heap.objs.size + 1), H', I3, rfl, q3⟩⟩
    | next => exact False.elim hq'
    | brk => exact False.elim hq'
    | cont => exact False.elim hq'
theorem pe_make (M : Mk X.K C f) (F : FnOk X.prog X.w X.K X.mg X.base CX k f fd ps sp) (hr : Room (k + 1) X.A) (hg : Gl X x) (hm : X.mg x = some (.ref C)) (hb : Binds X.K fd ps ds) (hd : Vals dvs ds) (hx : Passes CX X E)
    (ha : PA X (e :: es) t) (hdb : (x == ("__debug__" : Str)) = false := by decide) (he : starEach (e :: es) X.env = (false, eval e X.env) :: starEach es X.env := by with_unfolding_all rfl) (hpl : (backTo pos (starEach es X.env)).any (·.1) = false := by with_unfolding_all rfl) :
    PE X (.Call (.Name x p) (e :: es) [] pos) (tMake C sp dvs E t) := by
  intro pins s σ H Q I h
  refine wpAny_Call_Name_kw (ld_glob I hg hm ?_ hdb)
  refine PySem.W.callWith_K (h₀ := X.base) I.ok.mod.kin M.kp (thn (ha pos pins s σ H _ I h) fun us s1 ⟨vs, H1, I1, r, q⟩ => ⟨I1.kIn, ?_⟩) he hpl
  exact run_make M F hr hb hd hx I1 r q
theorem pe_make0 (M : Mk X.K C f) (F : FnOk X.prog X.w X.K X.mg X.base CX k f fd ps sp) (hr : Room (k + 1) X.A) (hg : Gl X x) (hm : X.mg x = some (.ref C)) (hb : Binds X.K fd ps ds) (hd : Vals dvs ds) (hx : Passes CX X E)
    (hdb : (x == ("__debug__" : Str)) = false := by decide) : PE X (.Call (.Name x p) [] [] pos) (tMake C sp dvs E tNil) := by
  intro pins s σ H Q I h
  refine wpAny_Call_Name_kw (ld_glob I hg hm ?_ hdb)
  exact PySem.W.callWith_K0 I.kIn M.kp (run_make (us := []) M F hr hb hd hx I .nil h)
end

/-! ### keywords -/
/-- the values of the keywords, from the left -/
def PK (X : Cx) (kws : List Keyword) (t : TA) : Prop :=
  ∀ (pos : Pos) (pins : List (Addr × Obj)) (s : Shared) (σ : St) (H : Hp) (Q : List V → Hp → Prop), Inv X pins σ H s → t σ H Q → wpAny (model X.prog X.w) X.A (evalAll ((backToKw pos (keywordEach kws X.env)).map (·.2))) (AP X pins σ Q) X.xe s
section
variable {X : Cx} {CX : CXT} {k : Nat} {f C : Addr} {fd : FuncData} {ps ks : List Str} {sp : Sp} {E : XK} {x m : Str} {p pos apos kpos : Pos} {e o : Expr} {es : List Expr} {kws : List Keyword} {te ta : TE} {t tk : TA} {nm : Option Str}
theorem pk_nil : PK X [] tNil := fun _ _ _ _ H Q I h => wpAny_evalAll_nil ⟨[], H, I, .nil, h⟩
theorem pk_cons (ha : PE X e te) (hr : PK X kws t) : PK X (⟨nm, e, kpos⟩ :: kws) (tCons te t) := by
  intro pos pins s σ H Q I h
  show wpAny _ _ (evalAll ((do let v ← eval e X.env; standAt pos; pure v) :: (backToKw pos (keywordEach kws X.env)).map (·.2))) _ _ s
  refine wpAny_evalAll_cons (wpAny_bind (thn (ha pins s σ H _ I h) fun u s1 ⟨x, H1, I1, r1, q1⟩ => wpAny_bind (wpAny_standAt (wpAny_pure ?_))))
  exact thn (hr pos pins s1 σ H1 _ I1 q1) fun us s2 ⟨xs, H2, I2, r2, q2⟩ => ⟨x :: xs, H2, I2, .cons r1 r2, q2⟩

/-- how a call with keywords binds: g puts the positional values us and the keywords' values ws (names ks) in the parameters' order, defaults among them -/
structure KBinds (K : PySem.W.Frag) (fd : FuncData) (ps ks : List Str) (g : List Value → List Value → List Value) (gV : List V → List V → List V) : Prop where
  to : ∀ (s : Shared) (us ws : List Value), K.In s.heap → (g us ws).length = ps.length → BindsTo s fd ⟨us, ks.zip ws⟩ (ps.zip (g us ws))
  rel : ∀ {vs : List V} {us : List Value} {zs : List V} {ws : List Value}, Vals vs us → Vals zs ws → Vals (gV vs zs) (g us ws)
def tCallK (sp : Sp) (gV : List V → List V → List V) (E : XK) (t tk : TA) : TE := fun σ H Q => t σ H fun vs H1 => tk σ H1 fun zs H2 => sp (gV vs zs) H2 Q E
variable {g : List Value → List Value → List Value} {gV : List V → List V → List V}
theorem run_fnk {pins : List (Addr × Obj)} {σ : St} {H : Hp} {s : Shared} {Q : VK} {us ws : List Value} {vs zs : List V} (F : FnOk X.prog X.w X.K X.mg X.base CX k f fd ps sp) (hr : Room k X.A) (hb : KBinds X.K fd ps ks g gV) (hx : Passes CX X E)
    (I : Inv X pins σ H s) (r : Vals vs us) (rz : Vals zs ws) (h : sp (gV vs zs) H Q E) : wpAny (model X.prog X.w) X.A (call (.ref f) us (ks.zip ws)) (EP X pins σ Q) X.xe s := by
  have r2 := hb.rel r rz
  have hl : (g us ws).length = ps.length := by rw [← r2.length]; exact F.len _ _ _ _ h
  refine wpAny_call (codeAny_mono (F.run X.A X.stack s H ⟨us, ks.zip ws⟩ (g us ws) (gV vs zs) Q E hr I.env0 (hb.to s us ws I.kIn hl) r2 h) fun r s' hq => ?_)
  cases r with
  | error e => exact hx pins σ H s e s' I hq
  | ok fl =>
    cases fl with
    | ret u => exact I.after hq
    | next => exact False.elim hq
    | brk => exact False.elim hq
    | cont => exact False.elim hq
/-- f(e, .., k = v, ..) -/
theorem pe_callK (F : FnOk X.prog X.w X.K X.mg X.base CX k f fd ps sp) (hr : Room k X.A) (hg : Gl X x) (hm : X.mg x = some (.ref f)) (hk : PySem.W.keepIn X.K (.ref f) = true) (hb : KBinds X.K fd ps ks g gV) (hx : Passes CX X E)
    (ha : PA X (e :: es) t) (hkw : PK X kws tk) (hall : (backToKw pos (keywordEach kws X.env)).all (·.1.isSome) = true := by with_unfolding_all rfl) (hks : (backToKw pos (keywordEach kws X.env)).filterMap (·.1) = ks := by with_unfolding_all rfl)
    (hdb : (x == ("__debug__" : Str)) = false := by decide) (he : starEach (e :: es) X.env = (false, eval e X.env) :: starEach es X.env := by with_unfolding_all rfl)
    (hpl : ((backTo pos (starEach (e :: es) X.env)).any (·.1) || (backToKw pos (keywordEach kws X.env)).any (·.1.isNone)) = false := by with_unfolding_all rfl) :
    PE X (.Call (.Name x p) (e :: es) kws pos) (tCallK sp gV E t tk) := by
  intro pins s σ H Q I h
  refine wpAny_Call_Name_kw (ld_glob I hg hm ?_ hdb)
  refine PySem.W.callWith_KW (h₀ := X.base) I.ok.mod.kin hk hall (thn (ha pos pins s σ H _ I h) fun us s1 ⟨vs, H1, I1, r, q⟩ => ?_) hpl he
  refine thn (hkw pos pins s1 σ H1 _ I1 q) fun ws s2 ⟨zs, H2, I2, rz, q2⟩ => ⟨I2.kIn, ?_⟩
  rw [hks]
  exact run_fnk F hr hb hx I2 r rz q2
end

/-! ### a def's body keeps its promise -/
/-- names: the parameters first -/
structure FnScope (N P : List Str) (sc : Scope) : Prop where
  kind : sc.kind = .function
  co : sc.isCoroutine = false
  gen : sc.isGenerator = false
  nd : N.Nodup
  pre : N.take P.length = P
  par : ∀ x ∈ P, sc.names.lookup x = some .local ∨ sc.names.lookup x = some .cell
  nofree : ∀ y ∈ sc.names, y.2 ≠ .free

theorem bindL_out {kindOf : Str → Option NameKind} {x : Str} : ∀ {binds : List (Str × Value)} {m : Str → Option Value}, (∀ v, (x, v) ∉ binds) → bindL kindOf binds m x = m x
  | [], _, _ => rfl
  | (n, v) :: r, m, h => by
    unfold bindL
    rw [bindL_out fun w hw => h w (List.mem_cons_of_mem _ hw)]
    split
    · have : x ≠ n := by rintro rfl; exact h v List.mem_cons_self
      simp [this]
    · rfl
theorem bindC_out {kindOf : Str → Option NameKind} {x : Str} : ∀ {binds : List (Str × Value)} {m : Str → Option Value}, (∀ v, (x, v) ∉ binds) → bindC kindOf binds m x = m x
  | [], _, _ => rfl
  | (n, v) :: r, m, h => by
    unfold bindC
    rw [bindC_out fun w hw => h w (List.mem_cons_of_mem _ hw)]
    split
    · rfl
    · have : x ≠ n := by rintro rfl; exact h v List.mem_cons_self
      simp [this]
theorem bindL_get {kindOf : Str → Option NameKind} {x : Str} {v : Value} : ∀ {P : List Str} {vs : List Value} {i : Nat} {m : Str → Option Value}, P.Nodup → P[i]? = some x → vs[i]? = some v → kindOf x = some .local →
    bindL kindOf (P.zip vs) m x = some v
  | [], _, _, _, _, h, _, _ => by simp at h
  | _ :: _, [], _, _, _, _, h, _ => by simp at h
  | p :: P, w :: vs, 0, m, nd, h1, h2, hk => by
    simp at h1 h2; subst h1; subst h2
    show bindL kindOf ((p, w) :: P.zip vs) m p = _
    unfold bindL
    rw [bindL_out fun v hv => (List.nodup_cons.mp nd).1 (List.of_mem_zip hv).1, if_pos hk]
    simp
  | p :: P, w :: vs, i + 1, m, nd, h1, h2, hk => by
    show bindL kindOf ((p, w) :: P.zip vs) m x = _
    unfold bindL
    exact bindL_get (i := i) (List.nodup_cons.mp nd).2 (by simpa using h1) (by simpa using h2) hk
theorem bindC_get {kindOf : Str → Option NameKind} {x : Str} {v : Value} : ∀ {P : List Str} {vs : List Value} {i : Nat} {m : Str → Option Value}, P.Nodup → P[i]? = some x → vs[i]? = some v → kindOf x ≠ some .local →
    bindC kindOf (P.zip vs) m x = some v
  | [], _, _, _, _, h, _, _ => by simp at h
  | _ :: _, [], _, _, _, _, h, _ => by simp at h
  | p :: P, w :: vs, 0, m, nd, h1, h2, hk => by
    simp at h1 h2; subst h1; subst h2
    show bindC kindOf ((p, w) :: P.zip vs) m p = _
    unfold bindC
    rw [bindC_out fun v hv => (List.nodup_cons.mp nd).1 (List.of_mem_zip hv).1, if_neg hk]
    simp
  | p :: P, w :: vs, i + 1, m, nd, h1, h2, hk => by
    show bindC kindOf ((p, w) :: P.zip vs) m x = _
    unfold bindC
    exact bindC_get (i := i) (List.nodup_cons.mp nd).2 (by simpa using h1) (by simpa using h2) hk

/-- the names' values at the entry -/
def start (N : List Str) (vs : List V) : St := vs.map some ++ List.replicate (N.length - vs.length) none

/-- the context of a def's body, at its entry; an exception leaves the frame, then lies as CX says -/
@[reducible] def cxOf (CX : CXT) (P : Program) (w : World) (K : PySem.W.Frag) (mg : Str → Option Value) (base : Heap) (N : List Str) (qual : Str) (scope : Scope) (f : Addr) (cd : Value) (A : Around) (outer : List Env) (s : Shared) (H : Hp) (E : XK) : Cx where
  prog := P
  w := w
  K := K
  mg := mg
  base := base
  A := A.deeper (envOfC qual scope s.heap.objs.size f cd)
  N := N
  s₀ := s
  H₀ := H
  env := envOfC qual scope s.heap.objs.size f cd
  outer := outer
  stack := envOfC qual scope s.heap.objs.size f cd :: outer
  ex := []
  calm := true
  fn := fun _ => true
  pn := []
  xe := fun e s' => wpAny (model P w) (A.deeper (envOfC qual scope s.heap.objs.size f cd)) (leaving (envOfC qual scope s.heap.objs.size f cd) e) (fun _ s'' => CX outer H s E e s'') (fun e' s'' => CX outer H s E e' s'') s'

theorem cell_has {sc : Scope} {n : Nat} {x : Str} (h : sc.names.lookup x = some .cell) : ∃ c, (cellsFrom n sc.names []).lookup x = some c := by
  have q := PySem.W.cellsFrom_some sc.names n [] (.inl h)
  exact Option.isSome_iff_exists.mp q

theorem inv_start {CX : CXT} {P : Program} {w : World} {K : PySem.W.Frag} {mg : Str → Option Value} {base : Heap} {N ps : List Str} {qual : Str} {scope : Scope} {f : Addr} {cd : Value} {A : Around} {outer : List Env} {s s1 : Shared} {H : Hp} {E : XK} {us : List Value} {vs : List V}
    (S : FnScope N ps scope) (hd : A.handled = none) (e0 : Env0 P w K mg base A outer s H) (hl : vs.length = ps.length) (r : Vals vs us)
    (x : InCallC s s.heap.objs.size (bindL (envOfC qual scope s.heap.objs.size f cd).kindOf (ps.zip us) fun _ => none) (cellsFrom (s.heap.objs.size + 1) scope.names []) (bindC (envOfC qual scope s.heap.objs.size f cd).kindOf (ps.zip us) fun _ => none) s1) :
    Inv (cxOf CX P w K mg base N qual scope f cd A outer s H E) [] (start N vs) H s1 := by
  have hpl : ps.length ≤ N.length := by have := congrArg List.length S.pre; rw [List.length_take] at this; omega
  obtain ⟨h1, tk, rfl, hk⟩ := x.done
  have noA : ∀ b : Addr, b ∉ (cxOf CX P w K mg base N qual scope f cd A outer s H E).ex := fun b z => absurd (show b ∈ ([] : List Addr) from z) (by simp)
  refine ⟨⟨e0.mod, S.kind, rfl, rfl, Nat.le_refl _, fun y z c h1 h2 => ?_, fun y hy => ?_, fun y c _ h => ?_, fun _ => hd, Around.frames_deeper e0.frames, .inr ⟨rfl, rfl⟩, fun b z => absurd z (noA b), e0.bs, e0.bsz, fun b _ _ => noA b, fun b z => absurd z (noA b), e0.funs, e0.frf⟩,
    rfl, e0.bare, Un.kept hk, ⟨_, x.toInCall.ns, fun i y v h1 h2 h3 => ?_⟩, fun y c h => ⟨_, x.cell y c h⟩, e0.hok.fresh (Nat.le_refl _), fun y c h => ?_, fun p hp => absurd (show p ∈ ([] : List (Addr × Obj)) from hp) (by simp), e0.hok.kept hk, ?_⟩
  · exact name_of_addr x.apart (PySem.mem_of_lookup h1) (PySem.mem_of_lookup h2)
  · have hy : scope.names.lookup y = some .cell ∨ scope.names.lookup y = some .free := hy
    rcases hy with hy | hy
    · exact cell_has hy
    · exact absurd rfl (S.nofree _ (PySem.mem_of_lookup hy))
  · exact Nat.le_of_lt (x.above y c (PySem.mem_of_lookup h))
  · have hi : i < vs.length := by
      unfold start at h2
      by_cases hi : i < vs.length
      · exact hi
      · rw [List.getElem?_append_right (by simpa using hi)] at h2
        rw [List.getElem?_replicate] at h2
        split at h2 <;> cases h2
    have ha : vs[i]? = some v := by
      unfold start at h2
      rw [List.getElem?_append_left (by simpa using hi), List.getElem?_map] at h2
      cases e : vs[i]? with
      | none => rw [e] at h2; cases h2
      | some a => rw [e] at h2; cases h2; rfl
    obtain ⟨u, hu, rv⟩ := r.get ha
    have hp : ps[i]? = some y := by
      rw [← S.pre, List.getElem?_take_of_lt (by omega)]; exact h1
    have ndP : ps.Nodup := by rw [← S.pre]; exact S.nd.sublist (List.take_sublist _ _)
    refine ⟨u, rv, ?_⟩
    rcases S.par y (List.mem_of_getElem? hp) with k | k
    · exact .inl ⟨k, bindL_get ndP hp hu k⟩
    · obtain ⟨c, e⟩ := cell_has (n := s.heap.objs.size + 1) k
      refine .inr ⟨.inl k, c, e, ?_⟩
      have q := x.cell y c e
      rw [bindC_get ndP hp hu (by show scope.names.lookup y ≠ _; rw [k]; decide)] at q
      exact q
  · exact e0.hok.fresh (Nat.le_of_lt (x.above y c (PySem.mem_of_lookup h)))
  · unfold start
    show _ = N.length
    rw [List.length_append, List.length_map, List.length_replicate]
    omega

/-- THE RULE: a def (or a method) of the text, by its body. The body's reading t is chosen for each entry; it is run at the parameters' values -/
theorem fn_of {CX : CXT} {P : Program} {w : World} {K : PySem.W.Frag} {mg : Str → Option Value} {base : Heap} {k : Nat} {f : Addr} {name qual : Str} {params : Arguments} {body : List Stmt} {scope : Scope} {dV kV doc pm cdv ct oc : Value} {an od : Option Addr}
    {osl : Array (Option Value)} {N ps : List Str} {sp : Sp} (lk : K.lookup f = some ⟨oc, od, .func (PySem.W.fnOf name qual params body scope dV kV doc pm an cdv ct), osl⟩) (hcd : PySem.W.codeIn K cdv qual = true) (S : FnScope N ps scope)
    (len : ∀ vs H Q E, sp vs H Q E → vs.length = ps.length)
    (hbody : ∀ (A : Around) (outer : List Env) (s : Shared) (H : Hp) (vs : List V) (Q : VK) (E : XK), Room k (A.deeper (envOfC qual scope s.heap.objs.size f cdv)) → sp vs H Q E →
      ∃ t, PSs (cxOf CX P w K mg base N qual scope f cdv A outer s H E) body t ∧ t { nx := fun _ H' => Q .non H', rt := Q } (start N vs) H) :
    FnOk P w K mg base CX (k + 1) f (PySem.W.fnOf name qual params body scope dV kV doc pm an cdv ct) ps sp := by
  refine ⟨len, fun A outer s H args us vs Q E hr e0 hb r hsp => ?_⟩
  have hl := len _ _ _ _ hsp
  have KX : K.In s.heap := e0.mod.kin.keeps fun b o e => (e0.bs b o e).1
  have lim : s.heap.NoLimit := e0.mod.nolimit.keeps fun b o e => (e0.bs b o e).1
  have hkind : ∀ y ∈ ps.zip us, scope.names.lookup y.1 = some .local ∨ (scope.names.lookup y.1 = some .cell ∧ ((cellsFrom (s.heap.objs.size + 1) scope.names []).lookup y.1).isSome = true) := fun ⟨n, v⟩ hy => by
    rcases S.par n (List.of_mem_zip hy).1 with q | q
    · exact .inl q
    · exact .inr ⟨q, PySem.W.cellsFrom_some _ _ _ (.inl q)⟩
  refine codeAny_call_function hr.depth (KX _ _ lk) rfl S.co S.gen rfl (PySem.W.codeRec_of KX hcd) (hb _ _ _ _ ?_)
  refine wpAny_newFunctionEnv_cells S.kind hkind fun env he s1 x => ?_
  subst he
  refine ⟨lim.keeps x.toInCall.keep, codeAny_func ?_⟩
  obtain ⟨t, ht, hq⟩ := hbody A outer s H vs Q E (hr.deeper _) hsp
  have I : Inv (cxOf CX P w K mg base N qual scope f cdv A outer s H E) [] (start N vs) H s1 := inv_start S hr.hd e0 hl r x
  refine wpAny_mono (ht [] s1 (start N vs) H _ I hq) (fun fl s' hs => ?_) fun e s' hs => hs
  have fin : ∀ {σ' : St} {H' : Hp} {v : V} {u : Value}, Inv (cxOf CX P w K mg base N qual scope f cdv A outer s H E) [] σ' H' s' → RelV v u → Q v H' → CE outer P w H s Q u s' :=
    fun {σ' H' v u} J rv q => ⟨v, H', J.os, J.bare, J.base, J.hok, rv, q⟩
  cases fl with
  | ret u =>
    obtain ⟨v, σ', H', J, rv, q⟩ := hs
    exact fin J rv q
  | next =>
    obtain ⟨σ', H', J, q⟩ := hs
    exact fin (v := V.non) (u := Value.none) J rfl q
  | brk =>
    obtain ⟨_, _, _, q⟩ := hs
    exact False.elim q
  | cont =>
    obtain ⟨_, _, _, q⟩ := hs
    exact False.elim q
end L2

namespace L2
open PySem PySem.Spec PyProof.Rows
section
variable {X : Cx} {x : Str} {p pos : Pos} {e : Expr} {es : List Expr} {t : TA} {id T : String} {r : List V → Hp → VK → Prop}

def tCB (r : List V → Hp → VK → Prop) (t : TA) : TE := fun σ H Q => t σ H fun vs H1 => r vs H1 Q
/-- f(e, ..), f a built-in function -/
theorem pe_callB (hc : CallR X (.builtin id) r) (hg : Gl X x) (hm : X.mg x = none) (hv : bootBuiltins x = some (.builtin id)) (ha : PA X (e :: es) t) (hn : x ≠ "__name__" := by decide) (hdb : (x == ("__debug__" : Str)) = false := by decide)
    (he : starEach (e :: es) X.env = (false, eval e X.env) :: starEach es X.env := by with_unfolding_all rfl) (hpl : (backTo pos (starEach es X.env)).any (·.1) = false := by with_unfolding_all rfl) : PE X (.Call (.Name x p) (e :: es) [] pos) (tCB r t) := by
  intro pins s σ H Q I h
  refine wpAny_Call_Name_kw (ld_blt I hg hm hv ?_ hn hdb)
  exact PyProof.Rows.callWith_builtin1 (thn (ha pos pins s σ H _ I h) fun us s1 ⟨vs, H1, I1, r1, q1⟩ => hc pins s1 σ H1 vs us Q I1 r1 q1) he hpl
/-- T(e, ..), T a built-in type -/
theorem pe_callTy (hc : CallR X (.type T) r) (hg : Gl X x) (hm : X.mg x = none) (hv : bootBuiltins x = some (.type T)) (ha : PA X (e :: es) t) (hn : x ≠ "__name__" := by decide) (hdb : (x == ("__debug__" : Str)) = false := by decide)
    (he : starEach (e :: es) X.env = (false, eval e X.env) :: starEach es X.env := by with_unfolding_all rfl) (hpl : (backTo pos (starEach es X.env)).any (·.1) = false := by with_unfolding_all rfl) : PE X (.Call (.Name x p) (e :: es) [] pos) (tCB r t) := by
  intro pins s σ H Q I h
  refine wpAny_Call_Name_kw (ld_blt I hg hm hv ?_ hn hdb)
  exact PyProof.Rows.callWith_type1 (thn (ha pos pins s σ H _ I h) fun us s1 ⟨vs, H1, I1, r1, q1⟩ => hc pins s1 σ H1 vs us Q I1 r1 q1) he hpl
/-- T() -/
theorem pe_callTy0 (hc : CallR X (.type T) r) (hg : Gl X x) (hm : X.mg x = none) (hv : bootBuiltins x = some (.type T)) (hn : x ≠ "__name__" := by decide) (hdb : (x == ("__debug__" : Str)) = false := by decide) :
    PE X (.Call (.Name x p) [] [] pos) (tCB r tNil) := by
  intro pins s σ H Q I h
  refine wpAny_Call_Name_kw (ld_blt I hg hm hv ?_ hn hdb)
  exact PyProof.Rows.callWith_type0 (hc pins s σ H [] [] Q I .nil h)
end
end L2

namespace HT
open PySem PyProof.Rows

/-- t < u of tuples of ints -/
def lexLt : List Int → List Int → Bool
  | [], [] => false
  | [], _ :: _ => true
  | _ :: _, [] => false
  | x :: xs, y :: ys => if x = y then lexLt xs ys else decide (x < y)
theorem lexLt_cons (x y : Int) (xs ys : List Int) : lexLt (x :: xs) (y :: ys) = if x = y then lexLt xs ys else decide (x < y) := rfl
theorem lexLt_nil_nil : lexLt [] [] = false := rfl
theorem lexLt_nil_cons (y : Int) (ys : List Int) : lexLt [] (y :: ys) = true := rfl
theorem lexLt_cons_nil (x : Int) (xs : List Int) : lexLt (x :: xs) [] = false := rfl

theorem eqAt_int (A : Around) (s : Shared) (a : Int) (t : Tok) (c : Int) (u : Tok) : ∃ e, SeqAt.EqAt A s (.int a t) (.int c u) e ∧ (e = true ↔ a = c) :=
  ⟨(a == c), SeqAt.EqAt.int_int a t c u, by simp⟩
theorem rcLt_int (A : Around) (s : Shared) (a : Int) (t : Tok) (c : Int) (u : Tok) (prog : Program) (w : World) (E : Value → Shared → Prop) (Q : Value → Shared → Prop) (h : Q (.bool (decide (a < c))) s) :
    wpAny (model prog w) A (richCompare .Lt (.int a t) (.int c u)) Q E s :=
  (PyProof.Rows.lt_int h : wpAny (model prog w) A (compareOp .Lt (.int a t) (.int c u)) Q E s)

section
open PySem.SeqAt
open PySem.AutoSeq1 (wpAny_loadPart')
open PySem.MeetsSeq PySem.MeetsSeq2 PySem.MeetsSeq3

theorem tuple_lt_ints (l b : Addr) (items items2 : Array Value) (n n2 : Nat) (dd dd2 : Option Addr) (sl sl2 : Array (Option Value)) (ns ms : List Int) (hi : IntsAre items.toList ns) (hj : IntsAre items2.toList ms) :
    Meets (Builtin.«tuple.__lt__» ⟨[.ref l, .ref b], []⟩)
      (fun _ R s => s.heap.get? l = some { cls := .type "tuple", dict := dd, data := .seq items n, slots := sl } ∧ s.heap.get? b = some { cls := .type "tuple", dict := dd2, data := .seq items2 n2, slots := sl2 } ∧
        R (.ok (.ret (.bool (lexLt ns ms)))) s) :=
  .of_wp fun prog w A R s h => by
    obtain ⟨hp, g, d, tk, os⟩ := s; obtain ⟨hl, hb, h⟩ := h
    have f2 := AutoSeq1.sub_tuple_tuple
    have z1 : items.size = ns.length := by rw [← hi.length]; simp
    have z2 : items2.size = ms.length := by rw [← hj.length]; simp
    wp_walk using wpAny_loadPart' hl, wpAny_loadPart' hb, wpAny_forIn_list _ (fun rest b s' => b.1 = none ∧ s' = ⟨hp, g, d, tk, os⟩ ∧ ∃ (vs ws : List Value) (ns' ms' : List Int), rest = vs.zip ws ∧
      IntsAre vs ns' ∧ IntsAre ws ms' ∧ ns'.length + items2.size = ms'.length + items.size ∧ R (.ok (.ret (.bool (lexLt ns' ms')))) ⟨hp, g, d, tk, os⟩) _
    case turn =>
      rintro ⟨y, x⟩ rest b s' ⟨hb', rfl, vs, ws, ns', ms', hz, hvi, hwi, hlen, hR⟩
      cases hvi with
      | nil => rw [List.zip_nil_left] at hz; cases hz
      | cons a t hvi' =>
        cases hwi with
        | nil => rw [List.zip_nil_right] at hz; cases hz
        | cons c u hwi' =>
          rw [List.zip_cons_cons] at hz
          injection hz with hyx hrest
          injection hyx with hy hx
          subst hy hx
          rw [lexLt_cons] at hR
          simp only [List.length_cons] at hlen
          obtain ⟨e, he, hiff⟩ := eqAt_int A.in1 ⟨hp, g, d, tk, os⟩ a t c u
          refine wpAny_bind (he prog w _ _ ?_)
          cases e with
          | true =>
            rw [if_pos (hiff.mp rfl)] at hR
            wp_walk
            exact ⟨rfl, rfl, _, _, _, _, hrest, hvi', hwi', by omega, hR⟩
          | false =>
            rw [if_neg (fun q => absurd (hiff.mpr q) Bool.false_ne_true)] at hR
            have hri := rcLt_int A.in1 ⟨hp, g, d, tk, os⟩ a t c u prog w
            wp_walk using hri
            exact ⟨_, rfl, by simpa using hR⟩
    case fin =>
      rintro ⟨b1, b2⟩ s' ⟨hb', rfl, vs, ws, ns', ms', hz, hvi, hwi, hlen, hR⟩
      simp only at hb'
      subst hb'
      have hv : lexLt ns' ms' = decide (items.size < items2.size) := by
        cases hvi with
        | nil =>
          cases hwi with
          | nil =>
            simp only [List.length_nil] at hlen
            rw [lexLt_nil_nil]
            exact (decide_eq_false (by omega)).symm
          | cons c u hw =>
            simp only [List.length_nil, List.length_cons] at hlen
            rw [lexLt_nil_cons]
            exact (decide_eq_true (by omega)).symm
        | cons a t hv =>
          cases hwi with
          | nil =>
            simp only [List.length_nil, List.length_cons] at hlen
            rw [lexLt_cons_nil]
            exact (decide_eq_false (by omega)).symm
          | cons c u hw =>
            rw [List.zip_cons_cons] at hz
            cases hz
      rw [hv] at hR
      wp_walk
      exact ⟨_, rfl, by simpa [Builtin.Tuple.tupleCompareSizes] using hR⟩
    case h =>
      exact ⟨rfl, rfl, items.toList, items2.toList, ns, ms, rfl, hi, hj, by omega, h⟩
end

section
variable {prog : Program} {w : World} {A : Around} {E : Value → Shared → Prop} {s : Shared}

theorem lt_tupInts {l b : Addr} {items items2 : Array Value} {ns ms : List Int} {Q : Value → Shared → Prop} (hl : IsTup s.heap l items) (hb : IsTup s.heap b items2) (hi : IntsAre items.toList ns) (hj : IntsAre items2.toList ms)
    (hu : A.units < cLine) (h : Q (.bool (lexLt ns ms)) s) : wpAny (model prog w) A (compareOp .Lt (.ref l) (.ref b)) Q E s := by
  obtain ⟨⟨cls, dd, data, sl⟩, ho, hc, n, hd⟩ := id hl
  obtain ⟨⟨cls2, dd2, data2, sl2⟩, ho2, hc2, n2, hd2⟩ := id hb
  simp only at hc hd hc2 hd2
  subst hc hd hc2 hd2
  exact richCompare_meets_room (op := .Lt) ⟨_, ho, rfl⟩ ⟨_, ho2, rfl⟩ PySem.F.slot_tuple_lt PySem.F.entry_tuple_lt (PySem.F.args_tuple_lt_2 _ _) (tuple_lt_ints l b items items2 n n2 dd dd2 sl sl2 ns ms hi hj)
    ⟨ho, ho2, show Value.bool (lexLt ns ms) ≠ Value.notImplemented ∧ Q (.bool (lexLt ns ms)) s from ⟨(fun x => nomatch x), h⟩⟩ hu

/-- t + u, t not empty -/
theorem cat_tup {t b : Addr} {vs ws : List Value} {Q : Value → Shared → Prop} (ht : IsTup s.heap t vs.toArray) (hb : IsTup s.heap b ws.toArray) (hv : vs ≠ [])
    (h1 : ws = [] → Q (.ref t) s) (h2 : ws ≠ [] → Q (.ref s.heap.objs.size) { s with heap := s.heap.push { cls := .type "tuple", data := .seq (vs ++ ws).toArray } })
    (hsz : vs.length + ws.length ≤ sizeLine) : wpAny (model prog w) A (binaryOp .Add (.ref t) (.ref b)) Q E s := by
  obtain ⟨⟨cls, dd, data, sl⟩, ho, hc, n, hd⟩ := id ht
  obtain ⟨⟨cls2, dd2, data2, sl2⟩, ho2, hc2, n2, hd2⟩ := id hb
  simp only at hc hd hc2 hd2
  subst hc hd hc2 hd2
  have e : vs.toArray ++ ws.toArray = (vs ++ ws).toArray := by simp
  by_cases hw : ws = []
  · exact concat_meets ⟨_, ho, rfl⟩ ⟨_, ho2, rfl⟩ noFill_tuple_add seq_tuple_add PySem.F.slot_tuple_add PySem.F.entry_tuple_add (PySem.F.args_tuple_add_2 _ _)
      (tuple_addW1 t b vs.toArray ws.toArray n n2 dd dd2 sl sl2 (by simpa using hv) (by simp [hw])) ⟨ho, ho2, h1 hw⟩
  · refine concat_meets ⟨_, ho, rfl⟩ ⟨_, ho2, rfl⟩ noFill_tuple_add seq_tuple_add PySem.F.slot_tuple_add PySem.F.entry_tuple_add (PySem.F.args_tuple_add_2 _ _)
      (tuple_addW2 t b vs.toArray ws.toArray n n2 dd dd2 sl sl2 (by simpa using hv) (by simpa using hw) (by rw [List.size_toArray, List.size_toArray]; exact hsz)) ⟨ho, ho2, ?_⟩
    rw [e]
    exact h2 hw

/-! ### t[a:b], not the whole -/
/-- a slice's bound as a place among n (d where it is left out) -/
def sIx (n d : Nat) : Option Int → Nat
  | none => d
  | some v => if v < 0 then (v + (n : Int)).toNat else min v.toNat n
theorem sIx_none (n d : Nat) : sIx n d none = d := rfl
theorem sIx_nat (n d k : Nat) : sIx n d (some (k : Int)) = min k n := by
  show (if (k : Int) < 0 then ((k : Int) + (n : Int)).toNat else min (k : Int).toNat n) = min k n
  rw [if_neg (by omega), Int.toNat_natCast]
theorem sIx_le (n d : Nat) (hd : d ≤ n) (o : Option Int) : sIx n d o ≤ n := by
  cases o with
  | none => exact hd
  | some v =>
    show (if v < 0 then (v + (n : Int)).toNat else min v.toNat n) ≤ n
    by_cases hv : v < 0
    · rw [if_pos hv]; omega
    · rw [if_neg hv]; exact Nat.min_le_right _ _
theorem clip_eq (v : Int) (n d : Nat) : (if v < 0 then max (v + (n : Int)) 0 else min v (n : Int)) = ((sIx n d (some v) : Nat) : Int) := by
  show (if v < 0 then max (v + (n : Int)) 0 else min v (n : Int)) = (((if v < 0 then (v + (n : Int)).toNat else min v.toNat n) : Nat) : Int)
  by_cases hv : v < 0
  · simp only [if_pos hv]; omega
  · simp only [if_neg hv]; omega
theorem adjust_gen (lo hi : Option Int) (n : Nat) : Builtin.Slice.sliceAdjust lo hi 1 (n : Int) = (((sIx n 0 lo : Nat) : Int), ((sIx n n hi : Nat) : Int)) := by
  have h1 : ¬ ((1 : Int) < 0) := by omega
  unfold Builtin.Slice.sliceAdjust
  simp only [h1, if_false]
  refine Prod.ext ?_ ?_
  · cases lo with
    | none => rfl
    | some v => exact clip_eq v n 0
  · cases hi with
    | none => rfl
    | some v => exact clip_eq v n n
theorem places_gen (i j : Nat) : Builtin.Slice.slicePlaces (i : Int) (j : Int) 1 = j - i := by
  unfold Builtin.Slice.slicePlaces
  have h1 : (1 : Int) > 0 := by omega
  simp only [h1, if_true, Int.ediv_one]
  split <;> omega
theorem slicePart_ {v : Value} {o : Option Int} {Q : Option Int → Shared → Prop} (p : IsPart v o) (h : Q o s) : wpAny (model prog w) A (Builtin.Slice.slicePartIndex v) Q E s := by
  cases p with
  | none => exact slicePart_none h
  | int i t => exact slicePart_int h
theorem sliceApplied_gen {sl : Addr} {vl vu : Value} {lo hi : Option Int} {n : Nat} {Q : Int × Int × Nat → Shared → Prop} (hs : s.heap.IsSliceOf sl vl vu .none) (pl : IsPart vl lo) (pu : IsPart vu hi)
    (h : Q (((sIx n 0 lo : Nat) : Int), 1, sIx n n hi - sIx n 0 lo) s) : wpAny (model prog w) A (Builtin.Slice.sliceApplied (.ref sl) (pure (n : Int))) Q E s := by
  obtain ⟨os, hos, hcs, hds⟩ := id hs
  unfold Builtin.Slice.sliceApplied Builtin.Slice.sliceFields
  refine wpAny_bind (wpAny_bind (wpAny_field hos hds (x := vl) rfl (wpAny_bind (wpAny_field hos hds (x := vu) rfl (wpAny_bind (wpAny_field hos hds (x := .none) rfl (wpAny_pure ?_)))))))
  refine wpAny_bind (slicePart_none ?_)
  show wpAny _ _ (if ((1 : Int) == 0) = true then _ else _) _ _ s
  rw [if_neg (by decide)]
  refine wpAny_bind (slicePart_ pl (wpAny_bind (slicePart_ pu (wpAny_bind (wpAny_pure ?_)))))
  show wpAny _ _ (match Builtin.Slice.sliceAdjust lo hi 1 (n : Int) with | (lo, hi) => pure (lo, (1 : Int), Builtin.Slice.slicePlaces lo hi 1)) _ _ s
  rw [adjust_gen lo hi n]
  show wpAny _ _ (pure (((sIx n 0 lo : Nat) : Int), (1 : Int), Builtin.Slice.slicePlaces ((sIx n 0 lo : Nat) : Int) ((sIx n n hi : Nat) : Int) 1)) _ _ s
  rw [places_gen]
  exact wpAny_pure h
theorem pick_gen (xs : Array Value) (i k : Nat) : ((List.range k).filterMap fun (m : Nat) => xs[((i : Int) + (m : Int) * 1).toNat]?).toArray = ((xs.toList.drop i).take k).toArray := by
  have e : (fun (m : Nat) => xs[((i : Int) + (m : Int) * 1).toNat]?) = fun m => xs[i + m]? := by
    funext m
    have : ((i : Int) + (m : Int) * 1).toNat = i + m := by omega
    rw [this]
  rw [e]
  have := pick_run xs i k
  rw [List.filterMap_map] at this
  have e2 : ((fun x => xs[x]?) ∘ fun x => i + x) = fun m => xs[i + m]? := rfl
  rw [e2] at this
  rw [this]

theorem getItem_tuple_cut {t sl : Addr} {items : Array Value} {vl vu : Value} {lo hi : Option Int} {Q : Value → Shared → Prop} (ht : IsTup s.heap t items) (hs : s.heap.IsSliceOf sl vl vu .none) (pl : IsPart vl lo) (pu : IsPart vu hi)
    (hw : ¬ (sIx items.size 0 lo = 0 ∧ sIx items.size items.size hi = items.size))
    (h : Q (.ref s.heap.objs.size) { s with heap := s.heap.push { cls := .type "tuple", data := .seq ((items.toList.drop (sIx items.size 0 lo)).take (sIx items.size items.size hi - sIx items.size 0 lo)).toArray } })
    (hsz : items.size ≤ sizeLine) : wpAny (model prog w) A (getItem (.ref t) (.ref sl)) Q E s := by
  have htake : sizeOk (.seq ((items.toList.drop (sIx items.size 0 lo)).take (sIx items.size items.size hi - sIx items.size 0 lo)).toArray) := by
    show ((items.toList.drop (sIx items.size 0 lo)).take (sIx items.size items.size hi - sIx items.size 0 lo)).toArray.size ≤ sizeLine
    rw [List.size_toArray, List.length_take, List.length_drop, Array.length_toList]
    omega
  have hj : sIx items.size items.size hi ≤ items.size := sIx_le _ _ (Nat.le_refl _) hi
  obtain ⟨os, hos, hcs, hds⟩ := id hs
  have hTs : s.TypeIs (.ref sl) "slice" := ⟨os, hos, hcs⟩
  unfold getItem
  try with_reducible refine wpAny_holding ?_
  first | refine wpAny_bind (wpAny_pure ?_) | skip
  refine wpAny_bind (wpAny_sequenceKey ht.typeIs (by decide) ?_)
  refine wpAny_bind (wpAny_callSpecial?_slot (name := Str.ofString "__getitem__") ht.typeIs PyProof.Rows.slot_tuple_getitem
    (wpAny_call_entry PyProof.Rows.slot_tuple_getitem ht.typeIs entry_tuple_getitem ?_ (args_tuple_getitem _ _)))
  show wpAny _ _ (Builtin.Tuple.tupleItemsOf (.ref t) >>= _) _ _ s
  refine wpAny_bind (tupleItemsOf_ ht ?_)
  refine wpAny_bind (wpAny_typeOf hTs ?_)
  rw [if_pos (by decide)]
  refine wpAny_bind (sliceApplied_gen hs pl pu ?_)
  have hno : ¬ ((((sIx items.size 0 lo : Nat) : Int) == 0 && (1 : Int) == 1 && (sIx items.size items.size hi - sIx items.size 0 lo) == items.size) = true) := by
    intro q
    rw [Bool.and_eq_true, Bool.and_eq_true] at q
    have q1 : ((sIx items.size 0 lo : Nat) : Int) = 0 := eq_of_beq q.1.1
    have q2 : sIx items.size items.size hi - sIx items.size 0 lo = items.size := eq_of_beq q.2
    exact hw ⟨by omega, by omega⟩
  show wpAny _ _ (if (((sIx items.size 0 lo : Nat) : Int) == 0 && (1 : Int) == 1 && (sIx items.size items.size hi - sIx items.size 0 lo) == items.size) = true then _ else _) _ _ s
  rw [if_neg hno, pick_gen]
  first
    | exact wpAny_bind (m := Builtin.Tuple.tupleExact _) (wpAny_newObj_type (wpAny_pure ⟨_, rfl, wpAny_pure h⟩) htake)
    | exact wpAny_bind (m := Builtin.Tuple.tupleExact _) (wpAny_newObj_type (wpAny_bind (wpAny_pure (wpAny_pure ⟨_, rfl, wpAny_pure h⟩))) htake)
    | exact wpAny_bind (wpAny_bind (m := Builtin.Tuple.tupleExact _) (wpAny_newObj_type (wpAny_pure (wpAny_pure ⟨_, rfl, wpAny_pure h⟩)) htake))
    | exact wpAny_bind (wpAny_bind (m := Builtin.Tuple.tupleExact _) (wpAny_newObj_type (wpAny_pure ⟨_, rfl, wpAny_pure h⟩) htake))
end
end HT

namespace L2
open PySem PySem.Spec PyProof.Rows

/-! ### the parts of a slice -/
abbrev TO := St → Hp → (Option Int → Hp → Prop) → Prop
/-- a slice's part (left out, or an int) -/
def PO (X : Cx) (e : Option Expr) (t : TO) : Prop :=
  ∀ (pins : List (Addr × Obj)) (s : Shared) (σ : St) (H : Hp) (Q : Option Int → Hp → Prop), Inv X pins σ H s → t σ H Q →
    wpAny (model X.prog X.w) X.A (evalPart e X.env) (fun u s' => ∃ o H', Inv X pins σ H' s' ∧ IsPart u o ∧ Q o H') X.xe s
def tNoPart : TO := fun _ H Q => Q none H
def tPart (t : TE) : TO := fun σ H Q => t σ H fun x H1 => ∃ i, x = .int i ∧ Q (some i) H1

theorem intsAre_of {ns : List Int} : ∀ {us : List Value}, Vals (ns.map V.int) us → IntsAre us ns := by
  induction ns with
  | nil => intro us r; rw [List.map_nil] at r; cases r; exact .nil
  | cons n ns ih =>
    intro us r
    rw [List.map_cons] at r
    cases r with
    | cons r1 r2 =>
      obtain ⟨t, e⟩ := r1
      subst e
      exact .cons n t (ih r2)

section
variable {X : Cx} {e : Expr} {te : TE} {lo hi : Option Expr} {tl th : TO} {pos p2 : Pos}

theorem po_none : PO X none tNoPart := by
  intro pins s σ H Q I h
  rw [evalPart_none]
  exact wpAny_pure ⟨none, H, I, .none, h⟩
theorem po_some (h : PE X e te) : PO X (some e) (tPart te) := by
  intro pins s σ H Q I hw
  rw [evalPart_some]
  refine thn (h pins s σ H _ I hw) fun u s1 ⟨x, H1, I1, r1, q1⟩ => ?_
  obtain ⟨i, rfl, q⟩ := q1
  obtain ⟨t, rfl⟩ := r1
  exact ⟨some i, H1, I1, .int i t, q⟩

/-- what a slice of a value is, by values: the slice object stands at sl -/
def SlR (X : Cx) (r : V → Option Int → Option Int → Hp → VK → Prop) : Prop :=
  ∀ (pins : List (Addr × Obj)) (s : Shared) (σ : St) (H : Hp) (x : V) (v vl vu : Value) (lo hi : Option Int) (sl : Addr) (Q : VK), Inv X pins σ H s → RelV x v → s.heap.IsSliceOf sl vl vu .none → IsPart vl lo → IsPart vu hi → r x lo hi H Q →
    ∃ T id, typeLookup (.type T) "__getitem__" = pure (some (.builtin id)) ∧ s.TypeIs v T ∧ wpAny (model X.prog X.w) X.A (getItem v (.ref sl)) (EP X pins σ Q) X.xe s
theorem SlR.or {r r' : V → Option Int → Option Int → Hp → VK → Prop} (h : SlR X r) (h' : SlR X r') : SlR X (fun x lo hi H Q => r x lo hi H Q ∨ r' x lo hi H Q) := by
  intro pins s σ H x v vl vu lo hi sl Q I rx hs pl pu q
  rcases q with q | q
  · exact h pins s σ H x v vl vu lo hi sl Q I rx hs pl pu q
  · exact h' pins s σ H x v vl vu lo hi sl Q I rx hs pl pu q
def tSl (r : V → Option Int → Option Int → Hp → VK → Prop) (te : TE) (tl th : TO) : TE := fun σ H Q => te σ H fun x H1 => tl σ H1 fun l H2 => th σ H2 fun u H3 => r x l u H3 Q
/-- a[lo:hi], any a -/
theorem pe_slice {r : V → Option Int → Option Int → Hp → VK → Prop} (hr : SlR X r) (he : PE X e te) (hl : PO X lo tl) (hu : PO X hi th) : PE X (.Subscript e (.Slice lo hi none p2) pos) (tSl r te tl th) := by
  intro pins s σ H Q I h
  refine Subscript_ (thn (he pins s σ H _ I h) fun v s1 ⟨x, H1, I1, r1, q1⟩ => ?_)
  refine wpAny_Slice (thn (hl pins s1 σ H1 _ I1 q1) fun vl s2 ⟨l, H2, I2, pl, q2⟩ => thn (hu pins s2 σ H2 _ I2 q2) fun vu s3 ⟨u, H3, I3, pu, q3⟩ => ?_)
  rw [evalPart_none]
  refine wpAny_pure ?_
  have I4 : Inv X pins σ H3 { s3 with heap := s3.heap.push { cls := .type "slice", data := .fields #[vl, vu, .none] } } := I3.kept (t' := s3.toks) fun b ob q => Heap.get?_push_of_some _ q
  obtain ⟨T, id, hT, ht, hg⟩ := hr pins { s3 with heap := s3.heap.push { cls := .type "slice", data := .fields #[vl, vu, .none] } } σ H3 x v vl vu l u s3.heap.objs.size Q I4 r1 (Heap.IsSliceOf.new ..) pl pu q3
  show wpAny (model X.prog X.w) X.A (subscriptTail e (.Slice lo hi none p2) v (.ref s3.heap.objs.size)) (EP X pins σ Q) X.xe { s3 with heap := s3.heap.push { cls := .type "slice", data := .fields #[vl, vu, .none] } }
  exact tail_any (ops := [.ref s3.heap.objs.size, v]) ht hT hg (by with_unfolding_all rfl)

/-- the items of xs[lo:hi] -/
def cutV (xs : List V) (lo hi : Option Int) : List V := (xs.drop (HT.sIx xs.length 0 lo)).take (HT.sIx xs.length xs.length hi - HT.sIx xs.length 0 lo)
theorem cutV_length (xs : List V) (lo hi : Option Int) : (cutV xs lo hi).length ≤ xs.length := by
  unfold cutV
  rw [List.length_take, List.length_drop]
  omega
/-- t[lo:hi], not the whole of it (the whole would be t itself) -/
def rSlT (K : PySem.W.Frag) : V → Option Int → Option Int → Hp → VK → Prop := fun x lo hi H Q => ∃ a xs, x = .ref a ∧ SqT K H a xs ∧
  ¬ (HT.sIx xs.length 0 lo = 0 ∧ HT.sIx xs.length xs.length hi = xs.length) ∧ ∀ p, H p = none → Q (.ref p) (upd H p (.tup (cutV xs lo hi)))
theorem sl_tup : SlR X (rSlT X.K) := by
  intro pins s σ H x v vl vu lo hi sl Q I rx hs pl pu h
  obtain ⟨a, xs, rfl, hx, hw, q⟩ := h
  cases rx
  obtain ⟨its, r, ht, hz⟩ := I.tuple hx
  have hlen : its.toArray.size = xs.length := by rw [List.size_toArray]; exact r.length.symm
  refine ⟨"tuple", _, PyProof.Rows.slot_tuple_getitem.lookup, ht.typeIs, ?_⟩
  refine HT.getItem_tuple_cut ht hs pl pu (by rw [hlen]; exact hw) ?_ (by rw [hlen]; exact hz)
  rw [hlen]
  refine ⟨.ref s.heap.objs.size, _, I.laid (t' := s.toks) (o := .tup (cutV xs lo hi)) (fun b ob q => Heap.get?_push_of_some _ q) (Nat.le_refl _) ?_, rfl, q _ (I.hok.fresh (Nat.le_refl _))⟩
  exact ⟨Nat.le_trans (cutV_length xs lo hi) hz, _, (r.drop (HT.sIx xs.length 0 lo)).take (HT.sIx xs.length xs.length hi - HT.sIx xs.length 0 lo), IsTup.new _ _⟩

/-! ### t < u, t + u -/
def rLtT (K : PySem.W.Frag) : R2 := fun x y H Q => ∃ a b ns ms, x = .ref a ∧ y = .ref b ∧ SqT K H a (ns.map V.int) ∧ SqT K H b (ms.map V.int) ∧ Q (.bl (HT.lexLt ns ms)) H
theorem op_ltT (hu : X.A.units < cLine) : OpR X (compareOp .Lt) (rLtT X.K) := by
  intro pins s σ H x y v u Q I rx ry h
  obtain ⟨a, b, ns, ms, rfl, rfl, ha, hb, q⟩ := h
  cases rx
  cases ry
  obtain ⟨its, r1, p1, _⟩ := I.tuple ha
  obtain ⟨its2, r2, p2, _⟩ := I.tuple hb
  have i1 : IntsAre its.toArray.toList ns := intsAre_of r1
  have i2 : IntsAre its2.toArray.toList ms := intsAre_of r2
  exact HT.lt_tupInts p1 p2 i1 i2 hu ⟨.bl (HT.lexLt ns ms), H, I, rfl, q⟩
/-- t + u, t not empty: u empty gives t itself -/
def rCatT (K : PySem.W.Frag) : R2 := fun x y H Q => ∃ a b xs ys, x = .ref a ∧ y = .ref b ∧ SqT K H a xs ∧ SqT K H b ys ∧ xs ≠ [] ∧ xs.length + ys.length ≤ sizeLine ∧
  (ys = [] → Q (.ref a) H) ∧ (ys ≠ [] → ∀ p, H p = none → Q (.ref p) (upd H p (.tup (xs ++ ys))))
theorem Vals.nil_iff {xs : List V} {us : List Value} (r : Vals xs us) : us = [] ↔ xs = [] := by
  cases r with
  | nil => simp
  | cons _ _ => simp
theorem op_catT : OpR X (binaryOp .Add) (rCatT X.K) := by
  intro pins s σ H x y v u Q I rx ry h
  obtain ⟨a, b, xs, ys, rfl, rfl, ha, hb, hx, hz, q1, q2⟩ := h
  cases rx
  cases ry
  obtain ⟨its, r1, p1, _⟩ := I.tuple ha
  obtain ⟨its2, r2, p2, _⟩ := I.tuple hb
  refine HT.cat_tup p1 p2 (fun z => hx (r1.nil_iff.mp z)) (fun z => ⟨.ref a, H, I, rfl, q1 (r2.nil_iff.mp z)⟩) (fun z => ?_) (by rw [← r1.length, ← r2.length]; exact hz)
  refine ⟨.ref s.heap.objs.size, _, I.laid (t' := s.toks) (o := .tup (xs ++ ys)) (fun b ob q => Heap.get?_push_of_some _ q) (Nat.le_refl _) ?_, rfl, q2 (fun w => z (r2.nil_iff.mpr w)) _ (I.hok.fresh (Nat.le_refl _))⟩
  exact ⟨by rw [List.length_append]; exact hz, _, r1.append r2, IsTup.new _ _⟩
/-- tuple(t) -/
theorem call_tupleT : CallR X (.type "tuple") (fun xs H Q => ∃ a ys, xs = [.ref a] ∧ SqT X.K H a ys ∧ Q (.ref a) H) := by
  intro pins s σ H xs us Q I r h
  obtain ⟨a, ys, rfl, ha, q⟩ := h
  obtain ⟨u, rfl, ru⟩ := vals1 r
  cases ru
  obtain ⟨its, _, p1, _⟩ := I.tuple ha
  exact call_tuple_same (items := its.toArray) p1 ⟨.ref a, H, I, rfl, q⟩
end
end L2

namespace L2
open PySem PySem.Spec PyProof.Rows

/-! ### places -/
/-- the place that an index of any sign means -/
def ixN (n : Nat) (i : Int) : Option Nat := if 0 ≤ i then (if i < n then some i.toNat else none) else if -(n : Int) ≤ i then some (i + n).toNat else none
def atI {α : Type} (xs : List α) (i : Int) : Option α := (ixN xs.length i).bind fun j => xs[j]?
theorem ixN_seq {n : Nat} {i : Int} {j : Nat} (h : ixN n i = some j) : seqIndex? i n = some j ∧ j < n ∧ -(n : Int) ≤ i ∧ i < n := by
  unfold ixN at h
  by_cases h0 : 0 ≤ i
  · rw [if_pos h0] at h
    by_cases h1 : i < n
    · rw [if_pos h1] at h
      have e : i.toNat = j := Option.some.inj h
      exact ⟨by rw [seqIndex_of h0 h1, e], by omega, by omega, h1⟩
    · rw [if_neg h1] at h; cases h
  · rw [if_neg h0] at h
    by_cases h1 : -(n : Int) ≤ i
    · rw [if_pos h1] at h
      have e : (i + n).toNat = j := Option.some.inj h
      exact ⟨by rw [seqIndex_neg (by omega) h1, e], by omega, h1, by omega⟩
    · rw [if_neg h1] at h; cases h
theorem atI_get {α : Type} {xs : List α} {i : Int} {v : α} (h : atI xs i = some v) : ∃ j, seqIndex? i xs.length = some j ∧ xs[j]? = some v ∧ j < xs.length ∧ -(xs.length : Int) ≤ i ∧ i < xs.length := by
  unfold atI at h
  cases e : ixN xs.length i with
  | none => rw [e] at h; cases h
  | some j =>
    rw [e] at h
    obtain ⟨h1, h2, h3, h4⟩ := ixN_seq e
    exact ⟨j, h1, h, h2, h3, h4⟩
theorem atI_nat {α : Type} {xs : List α} {j : Nat} {v : α} (h : xs[j]? = some v) : atI xs (j : Int) = some v := by
  have hj : j < xs.length := (List.getElem?_eq_some_iff.mp h).1
  have e : ixN xs.length (j : Int) = some j := by
    unfold ixN
    rw [if_pos (by omega), if_pos (by omega)]; simp
  unfold atI; rw [e]; exact h
theorem atI_last {α : Type} (xs : List α) (v : α) : atI (xs ++ [v]) (-1) = some v := by
  have hl : (xs ++ [v]).length = xs.length + 1 := by simp
  have e : ixN (xs ++ [v]).length (-1) = some xs.length := by
    unfold ixN
    rw [hl, if_neg (by decide), if_pos (by omega)]
    congr 1
    omega
  unfold atI
  rw [e]
  show (xs ++ [v])[xs.length]? = some v
  simp

/-! ### what may be subscripted -/
/-- what stands as an index of a plain subscript -/
def PlainIx (b : Expr) : Prop := ∀ o i, subscripted b false o i = operate [o, i] (getItem o i)
/-- a subscript by values -/
def IxR (X : Cx) (r : R2) : Prop :=
  ∀ (value slice : Expr) (pins : List (Addr × Obj)) (s : Shared) (σ : St) (H : Hp) (x y : V) (v u : Value) (Q : VK), Inv X pins σ H s → RelV x v → RelV y u → r x y H Q →
    subscripted slice false v u = operate [v, u] (getItem v u) → wpAny (model X.prog X.w) X.A (subscriptTail value slice v u) (EP X pins σ Q) X.xe s
/-- a call of a builtin's method by values: the receiver, the arguments -/
def MtR (X : Cx) (id : String) (r : V → List V → Hp → VK → Prop) : Prop :=
  ∀ (pins : List (Addr × Obj)) (s : Shared) (σ : St) (H : Hp) (x : V) (xs : List V) (v : Value) (us : List Value) (Q : VK), Inv X pins σ H s → RelV x v → Vals xs us → r x xs H Q →
    wpAny (model X.prog X.w) X.A (call (.builtin id) (v :: us)) (EP X pins σ Q) X.xe s
section
variable {X : Cx} {a b : Expr} {ta tb : TE} {pos : Pos}
theorem IxR.or {r r' : R2} (h : IxR X r) (h' : IxR X r') : IxR X (fun x y H Q => r x y H Q ∨ r' x y H Q) := by
  intro value slice pins s σ H x y v u Q I rx ry q hs
  rcases q with q | q
  · exact h value slice pins s σ H x y v u Q I rx ry q hs
  · exact h' value slice pins s σ H x y v u Q I rx ry q hs
theorem MtR.or {id : String} {r r' : V → List V → Hp → VK → Prop} (h : MtR X id r) (h' : MtR X id r') : MtR X id (fun x xs H Q => r x xs H Q ∨ r' x xs H Q) := by
  intro pins s σ H x xs v us Q I rx rs q
  rcases q with q | q
  · exact h pins s σ H x xs v us Q I rx rs q
  · exact h' pins s σ H x xs v us Q I rx rs q
/-- a[b] -/
theorem pe_ix {r : R2} (hr : IxR X r) (ha : PE X a ta) (hb : PE X b tb) (hs : PlainIx b) : PE X (.Subscript a b pos) (tOp r ta tb) := by
  intro pins s σ H Q I h
  exact Subscript_ (binT ha hb I h fun v u s2 x y H2 I2 rx ry q => hr a b pins s2 σ H2 x y v u Q I2 rx ry q (hs _ _))

def rIxL (K : PySem.W.Frag) : R2 := fun x y H Q => ∃ p xs i v, x = .ref p ∧ y = .int i ∧ SqL K H p xs ∧ atI xs i = some v ∧ Q v H
def rIxT (K : PySem.W.Frag) : R2 := fun x y H Q => ∃ p xs i v, x = .ref p ∧ y = .int i ∧ SqT K H p xs ∧ atI xs i = some v ∧ Q v H
def rIxS : R2 := fun x y H Q => ∃ z i c, x = .str z ∧ y = .int i ∧ z.length ≤ sizeLine ∧ atI z.cps.toList i = some c ∧ Q (.str ⟨#[c]⟩) H
theorem ix_list : IxR X (rIxL X.K) := by
  intro value slice pins s σ H x y v u Q I rx ry h hs
  obtain ⟨p, xs, i, z, rfl, rfl, hq, he, q⟩ := h
  cases rx
  obtain ⟨t, rfl⟩ := ry
  obtain ⟨its, r, pl, hz⟩ := I.list hq
  obtain ⟨j, h1, h2, h3, h4, h5⟩ := atI_get he
  obtain ⟨w, ew, rw'⟩ := r.get h2
  have hl := r.length
  have hn := line63
  have fin : EP X pins σ Q w s := ⟨z, H, I, rw', q⟩
  by_cases h0 : 0 ≤ i
  · have hj : i.toNat = j := by
      rw [seqIndex_of h0 h5] at h1
      exact Option.some.inj h1
    exact item_listR pl.isList h0 (by omega) (by rw [hj]; simpa using ew) fin hs
  · have hj : (i + (its.toArray.size : Int)).toNat = j := by
      rw [seqIndex_neg (by omega) h4] at h1
      rw [List.size_toArray, ← hl]
      exact Option.some.inj h1
    exact subscriptTail_builtinR (x := w) pl.isList.typeIs slot_list_getitem.lookup
      (wpAny_getItem_list_neg (Q := fun r s' => r = w ∧ EP X pins σ Q r s') pl.isList (by omega) (by rw [List.size_toArray] <;> omega) (by omega) (by rw [hj]; simpa using ew) ⟨rfl, fin⟩) hs
theorem ix_tup : IxR X (rIxT X.K) := by
  intro value slice pins s σ H x y v u Q I rx ry h hs
  obtain ⟨p, xs, i, z, rfl, rfl, hq, he, q⟩ := h
  cases rx
  obtain ⟨t, rfl⟩ := ry
  obtain ⟨its, r, pl, hz⟩ := I.tuple hq
  obtain ⟨j, h1, h2, h3, h4, h5⟩ := atI_get he
  obtain ⟨w, ew, rw'⟩ := r.get h2
  have hl := r.length
  have hn := line63
  have fin : EP X pins σ Q w s := ⟨z, H, I, rw', q⟩
  exact subscriptTail_builtinR (x := w) pl.typeIs slot_tuple_getitem.lookup
    (getItem_tuple (j := j) (Q := fun r s' => r = w ∧ EP X pins σ Q r s') pl (by omega) (by omega) (by rw [List.size_toArray, ← hl]; exact h1) (by simpa using ew) ⟨rfl, fin⟩) hs
theorem ix_str : IxR X rIxS := by
  intro value slice pins s σ H x y v u Q I rx ry h hs
  obtain ⟨z, i, c, rfl, rfl, hz, he, q⟩ := h
  obtain ⟨t, rfl⟩ := rx
  obtain ⟨t', rfl⟩ := ry
  obtain ⟨j, h1, h2, h3, h4, h5⟩ := atI_get he
  have hl : z.cps.toList.length = z.length := by simp [Str.length]
  rw [hl] at h1 h4 h5
  have hn := line63
  exact tail_any (typeIs_str s z t) slot_str_getitem.lookup (getItem_str (c := c) (by
    have e1 : decide (i < -(2 ^ 63 : Int)) = false := decide_eq_false (by omega)
    have e2 : decide (i ≥ 2 ^ 63) = false := decide_eq_false (by omega)
    rw [e1, e2, Bool.or_false]) (by rw [h1]; simpa using h2) ⟨.str ⟨#[c]⟩, H, I.tok _, ⟨_, rfl⟩, q⟩) hs
/-- list, tuple or str -/
def rIx (K : PySem.W.Frag) : R2 := fun x y H Q => rIxL K x y H Q ∨ rIxT K x y H Q ∨ rIxS x y H Q
theorem ix_seq : IxR X (rIx X.K) := ix_list.or (ix_tup.or ix_str)

/-! ### xs[i] = v, any sign -/
/-- the list's object behind a store -/
theorem mapSeq_set (its : List Value) (n j : Nat) (u : Value) : Obj.mapSeq (·.setIfInBounds j u) { cls := .type "list", data := .seq its.toArray n } = { cls := .type "list", data := .seq (its.set j u).toArray n } := by
  simp [Obj.mapSeq]
theorem Inv.lst {pins : List (Addr × Obj)} {σ : St} {H : Hp} {s : Shared} {p : Addr} {xs : List V} (I : Inv X pins σ H s) (h : H p = some (.lst xs)) :
    ∃ (its : List Value) (n : Nat), Vals xs its ∧ s.heap.get? p = some { cls := .type "list", data := .seq its.toArray n } ∧ xs.length ≤ sizeLine := by
  obtain ⟨z, its, n, r, e⟩ := I.hok p _ h
  exact ⟨its, n, r, e, z⟩
/-- the list at p is written by an update of its object -/
theorem Inv.lstUpd {pins : List (Addr × Obj)} {σ : St} {H : Hp} {s : Shared} {p : Addr} {xs ys : List V} {its its' : List Value} {n n' : Nat} {f : Obj → Obj} (I : Inv X pins σ H s) (h : H p = some (.lst xs))
    (ho : s.heap.get? p = some { cls := .type "list", data := .seq its.toArray n }) (hf : f { cls := .type "list", data := .seq its.toArray n } = { cls := .type "list", data := .seq its'.toArray n' }) (r : Vals ys its') (hz : ys.length ≤ sizeLine) (t : Nat) :
    Inv X pins σ (upd H p (.lst ys)) { s with heap := s.heap.update p f, toks := t } := by
  have e : (s.heap.update p f).get? p = some { cls := .type "list", data := .seq its'.toArray n' } := by
    rw [Heap.get?_update_self f ho (by rw [hf] <;> rfl), hf]
  refine I.write (x := p) (e := p) (by rw [h]; trivial) (.inl rfl) (fun b u hb q => (Heap.get?_update_other _ _ (Ne.symm hb)).trans q) ⟨_, e⟩ ?_
  exact ⟨hz, its', n', r, e⟩
def rSetL : V → V → V → Hp → (Hp → Prop) → Prop := fun o i v H Q => ∃ p xs k j, o = .ref p ∧ i = .int k ∧ H p = some (.lst xs) ∧ ixN xs.length k = some j ∧ Q (upd H p (.lst (xs.set j v)))
theorem set_list : PSet X rSetL := by
  intro pins s σ H o i v ov iv u Q I ro ri rv h
  obtain ⟨p, xs, k, j, rfl, rfl, hp, hj, q⟩ := h
  cases ro
  obtain ⟨t, rfl⟩ := ri
  obtain ⟨its, n, r, ho, hz⟩ := I.lst hp
  obtain ⟨h1, h2, h3, h4⟩ := ixN_seq hj
  have hl := r.length
  have hn := line63
  have I' : Inv X pins σ (upd H p (.lst (xs.set j v))) { s with heap := s.heap.update p (Obj.mapSeq (·.setIfInBounds j u)) } :=
    I.lstUpd hp ho (mapSeq_set its n j u) (r.set rv j) (by rw [List.length_set]; exact hz) s.toks
  by_cases h0 : 0 ≤ k
  · have hk : k.toNat = j := by
      rw [seqIndex_of h0 h4] at h1
      exact Option.some.inj h1
    exact PySem.W.ki_setAt ho h0 (by omega) (by rw [List.size_toArray, ← hl]; exact h4) (by rw [hk]; exact ⟨_, I', q⟩)
  · have hk : (k + (its.toArray.size : Int)).toNat = j := by
      rw [seqIndex_neg (by omega) h3] at h1
      rw [List.size_toArray, ← hl]
      exact Option.some.inj h1
    exact PySem.W.ki_setBack ho (by omega) (by rw [List.size_toArray, ← hl]; exact h3) (by omega) (by rw [hk]; exact ⟨_, I', q⟩)

/-! ### slices -/
theorem slice_bounds (lo hi : Option Int) (n : Nat) : (sliceBounds lo hi none n).1 = ((HT.sIx n 0 lo : Nat) : Int) ∧ (sliceBounds lo hi none n).2.1 = ((HT.sIx n n hi : Nat) : Int) ∧ (sliceBounds lo hi none n).2.2 = 1 := by
  refine ⟨?_, ?_, rfl⟩
  · cases lo with
    | none => simp [sliceBounds, HT.sIx]
    | some i =>
      simp only [sliceBounds, HT.sIx, Option.getD_none, show (1 : Int) > 0 by decide, if_true]
      by_cases h : i < 0
      · simp only [h, if_true] <;> omega
      · simp only [h, if_false] <;> omega
  · cases hi with
    | none => simp [sliceBounds, HT.sIx]
    | some i =>
      simp only [sliceBounds, HT.sIx, Option.getD_none, show (1 : Int) > 0 by decide, if_true]
      by_cases h : i < 0
      · simp only [h, if_true] <;> omega
      · simp only [h, if_false] <;> omega
theorem slicePick_cut (its : List Value) (lo hi : Option Int) : slicePick its.toArray lo hi none = ((its.drop (HT.sIx its.length 0 lo)).take (HT.sIx its.length its.length hi - HT.sIx its.length 0 lo)).toArray := by
  obtain ⟨h1, h2, h3⟩ := slice_bounds lo hi its.toArray.size
  unfold slicePick
  rw [h1, h2, h3]
  simp only [sliceRange_one, pick_run, List.size_toArray] <;> rfl
/-- xs[lo:hi] of a list: a new list -/
def rSlL (K : PySem.W.Frag) : V → Option Int → Option Int → Hp → VK → Prop := fun x lo hi H Q => ∃ a xs, x = .ref a ∧ SqL K H a xs ∧ ∀ p, H p = none → Q (.ref p) (upd H p (.lst (cutV xs lo hi)))
theorem sl_list : SlR X (rSlL X.K) := by
  intro pins s σ H x v vl vu lo hi sl Q I rx hs pl pu h
  obtain ⟨a, xs, rfl, hx, q⟩ := h
  cases rx
  obtain ⟨its, r, ht, hz⟩ := I.list hx
  have hlen := r.length
  refine ⟨"list", _, slot_list_getitem.lookup, ht.isList.typeIs, ?_⟩
  refine wpAny_getItem_list_slice ht.isList hs pl pu .none (by simp) ?_ (by rw [List.size_toArray] <;> omega)
  rw [slicePick_cut, ← hlen]
  refine ⟨.ref s.heap.objs.size, _, I.laid (t' := s.toks) (o := .lst (cutV xs lo hi)) (fun b ob q => Heap.get?_push_of_some _ q) (Nat.le_refl _) ?_, rfl, q _ (I.hok.fresh (Nat.le_refl _))⟩
  exact ⟨Nat.le_trans (cutV_length xs lo hi) hz, _, 0, (r.drop (HT.sIx xs.length 0 lo)).take (HT.sIx xs.length xs.length hi - HT.sIx xs.length 0 lo), Heap.get?_push_size _ rfl⟩

/-! ### in, not in: flat items -/
def flatV : V → Bool
  | .non => true
  | .bl _ => true
  | .int _ => true
  | .str _ => true
  | _ => false
/-- == of flat values -/
def eqV : V → V → Bool
  | .non, .non => true
  | .bl a, .bl b => a == b
  | .bl a, .int b => (if a then 1 else 0) == b
  | .int a, .bl b => a == (if b then 1 else 0)
  | .int a, .int b => a == b
  | .str a, .str b => a == b
  | _, _ => false
theorem eqAt_V {A : Around} {s : Shared} {y x : V} {u v : Value} (ry : RelV y u) (rx : RelV x v) (fy : flatV y = true) (fx : flatV x = true) : SeqAt.EqAt A s u v (eqV y x) := by
  cases y with
  | non =>
    cases ry
    cases x with
    | non => cases rx; exact SeqAt.EqAt.same _
    | bl b => cases rx; exact SeqAt.EqAt.none_bool b
    | int b => obtain ⟨t, rfl⟩ := rx; exact SeqAt.EqAt.none_int b t
    | str b => obtain ⟨t, rfl⟩ := rx; exact SeqAt.EqAt.none_str b t
    | _ => exact absurd (show false = true from fx) Bool.false_ne_true
  | bl a =>
    cases ry
    cases x with
    | non => cases rx; exact SeqAt.EqAt.bool_none a
    | bl b => cases rx; exact SeqAt.EqAt.bool_bool a b
    | int b => obtain ⟨t, rfl⟩ := rx; exact SeqAt.EqAt.bool_int a b t
    | str b => obtain ⟨t, rfl⟩ := rx; exact SeqAt.EqAt.bool_str a b t
    | _ => exact absurd (show false = true from fx) Bool.false_ne_true
  | int a =>
    obtain ⟨t', rfl⟩ := ry
    cases x with
    | non => cases rx; exact SeqAt.EqAt.int_none a t'
    | bl b => cases rx; exact SeqAt.EqAt.int_bool a t' b
    | int b => obtain ⟨t, rfl⟩ := rx; exact SeqAt.EqAt.int_int a t' b t
    | str b => obtain ⟨t, rfl⟩ := rx; exact SeqAt.EqAt.int_str a t' b t
    | _ => exact absurd (show false = true from fx) Bool.false_ne_true
  | str a =>
    obtain ⟨t', rfl⟩ := ry
    cases x with
    | non => cases rx; exact SeqAt.EqAt.str_none a t'
    | bl b => cases rx; exact SeqAt.EqAt.str_bool a t' b
    | int b => obtain ⟨t, rfl⟩ := rx; exact SeqAt.EqAt.str_int a t' b t
    | str b => obtain ⟨t, rfl⟩ := rx; exact SeqAt.EqAt.str_str a t' b t
    | _ => exact absurd (show false = true from fx) Bool.false_ne_true
  | _ => exact absurd (show false = true from fy) Bool.false_ne_true
/-- the items' answers, read off the values (a value's own answer does not lean on its token) -/
def eqU (x : V) (u : Value) : Bool := match u with
  | .none => eqV .non x
  | .bool b => eqV (.bl b) x
  | .int i _ => eqV (.int i) x
  | .str z _ => eqV (.str z) x
  | _ => false
theorem eqU_of {x y : V} {u : Value} (r : RelV y u) (f : flatV y = true) : eqU x u = eqV y x := by
  cases y with
  | non => cases r; rfl
  | bl b => cases r; rfl
  | int i => obtain ⟨t, rfl⟩ := r; rfl
  | str z => obtain ⟨t, rfl⟩ := r; rfl
  | _ => exact absurd (show false = true from f) Bool.false_ne_true
theorem any_eqU {x : V} : ∀ {xs : List V} {us : List Value}, Vals xs us → xs.all flatV = true → us.any (eqU x) = xs.any fun y => eqV y x
  | _, _, .nil, _ => rfl
  | y :: xs, u :: us, .cons r t, f => by
    rw [List.all_cons, Bool.and_eq_true] at f
    rw [List.any_cons, List.any_cons, eqU_of r f.1, any_eqU t f.2]
theorem mem_eqAt {A : Around} {s : Shared} {x : V} {v : Value} (rx : RelV x v) (fx : flatV x = true) : ∀ {xs : List V} {us : List Value}, Vals xs us → xs.all flatV = true → ∀ u ∈ us, SeqAt.EqAt A s u v (eqU x u)
  | _, _, .nil, _ => fun u hu => by cases hu
  | y :: xs, u :: us, .cons r t, f => fun u' hu => by
    rw [List.all_cons, Bool.and_eq_true] at f
    rcases List.mem_cons.mp hu with rfl | hu
    · rw [eqU_of r f.1]; exact eqAt_V r rx f.1 fx
    · exact mem_eqAt rx fx t f.2 u' hu
def inV (x : V) (xs : List V) : Bool := xs.any fun y => eqV y x
/-- x in a list or tuple of flat items -/
def rIn (K : PySem.W.Frag) (neg : Bool) : R2 := fun x y H Q => ∃ p xs, y = .ref p ∧ (SqL K H p xs ∨ SqT K H p xs) ∧ flatV x = true ∧ xs.all flatV = true ∧ Q (.bl (if neg then !inV x xs else inV x xs)) H
theorem op_in_seq : OpR X (compareOp .In) (rIn X.K false) := by
  intro pins s σ H x y v u Q I rx ry h
  obtain ⟨p, xs, rfl, hq, fx, fs, q⟩ := h
  cases ry
  rcases hq with hq | hq
  · obtain ⟨its, r, pl, hz⟩ := I.list hq
    refine SeqAt.in_listAt (eqU x) pl.isList (fun w hw => mem_eqAt rx fx r fs w (by simpa using hw)) ⟨.bl _, H, I, rfl, ?_⟩
    rw [show its.toArray.any (eqU x) = its.any (eqU x) by simp, any_eqU r fs]
    exact q
  · obtain ⟨its, r, pl, hz⟩ := I.tuple hq
    refine SeqAt.in_tupleAt (eqU x) pl (fun w hw => mem_eqAt rx fx r fs w (by simpa using hw)) ⟨.bl _, H, I, rfl, ?_⟩
    rw [show its.toArray.any (eqU x) = its.any (eqU x) by simp, any_eqU r fs]
    exact q
theorem op_notIn_seq : OpR X (compareOp .NotIn) (rIn X.K true) := by
  intro pins s σ H x y v u Q I rx ry h
  obtain ⟨p, xs, rfl, hq, fx, fs, q⟩ := h
  cases ry
  rcases hq with hq | hq
  · obtain ⟨its, r, pl, hz⟩ := I.list hq
    refine SeqAt.notIn_listAt (eqU x) pl.isList (fun w hw => mem_eqAt rx fx r fs w (by simpa using hw)) ⟨.bl _, H, I, rfl, ?_⟩
    rw [show its.toArray.any (eqU x) = its.any (eqU x) by simp, any_eqU r fs]
    exact q
  · obtain ⟨its, r, pl, hz⟩ := I.tuple hq
    refine SeqAt.notIn_tupleAt (eqU x) pl (fun w hw => mem_eqAt rx fx r fs w (by simpa using hw)) ⟨.bl _, H, I, rfl, ?_⟩
    rw [show its.toArray.any (eqU x) = its.any (eqU x) by simp, any_eqU r fs]
    exact q
theorem op_notIn_str : OpR X (compareOp .NotIn) (fun x y H Q => ∃ i j, x = .str i ∧ y = .str j ∧ Q (.bl (!(!(Builtin.Str.occurrences j i 0 j.length 1).isEmpty))) H) := by
  intro pins s σ H x y v u Q I rx ry h
  obtain ⟨i, j, rfl, rfl, q⟩ := h
  obtain ⟨t, rfl⟩ := rx
  obtain ⟨t', rfl⟩ := ry
  exact notIn_str ⟨.bl _, H, I, rfl, q⟩

/-! ### len, list(x), tuple(x) of any list or tuple that is read -/
theorem call_len_seq : CallR X (.builtin "len") (fun xs H Q => ∃ p ys, xs = [.ref p] ∧ (SqL X.K H p ys ∨ SqT X.K H p ys) ∧ Q (.int ys.length) H) := by
  intro pins s σ H xs us Q I r h
  obtain ⟨p, ys, rfl, hq, q⟩ := h
  obtain ⟨u, rfl, rx⟩ := vals1 r
  cases rx
  have hn := line63
  rcases hq with hq | hq
  · obtain ⟨its, r', pl, hz⟩ := I.list hq
    have hlen := r'.length
    exact Calls.call_len_list pl.isList (by simp only [List.size_toArray] <;> omega) ⟨.int ys.length, H, I.tok _, ⟨s.toks + 1, by rw [List.size_toArray, hlen]⟩, q⟩
  · obtain ⟨its, r', pl, hz⟩ := I.tuple hq
    have hlen := r'.length
    exact len_tuple pl (by simp only [List.size_toArray] <;> omega) ⟨.int ys.length, H, I.tok _, ⟨s.toks + 1, by rw [List.size_toArray, hlen]⟩, q⟩
theorem call_len_str : CallR X (.builtin "len") (fun xs H Q => ∃ z, xs = [.str z] ∧ z.length ≤ sizeLine ∧ Q (.int z.length) H) := by
  intro pins s σ H xs us Q I r h
  obtain ⟨z, rfl, hz, q⟩ := h
  obtain ⟨u, rfl, t, rfl⟩ := vals1 r
  have hn := line63
  exact len_str (by omega) ⟨.int z.length, H, I.tok _, ⟨_, rfl⟩, q⟩
theorem CallR.or {f : Value} {r r' : List V → Hp → VK → Prop} (h : CallR X f r) (h' : CallR X f r') : CallR X f (fun xs H Q => r xs H Q ∨ r' xs H Q) := by
  intro pins s σ H xs us Q I rs q
  rcases q with q | q
  · exact h pins s σ H xs us Q I rs q
  · exact h' pins s σ H xs us Q I rs q
theorem call_list_of : CallR X (.type "list") (fun xs H Q => ∃ p ys, xs = [.ref p] ∧ (SqL X.K H p ys ∨ SqT X.K H p ys) ∧ ∀ l, H l = none → Q (.ref l) (upd H l (.lst ys))) := by
  intro pins s σ H xs us Q I r h
  obtain ⟨p, ys, rfl, hq, q⟩ := h
  obtain ⟨u, rfl, rx⟩ := vals1 r
  cases rx
  have fin : ∀ (its : List Value), Vals ys its → ys.length ≤ sizeLine → ∀ (h' : Heap) (c' : Nat), (∀ b o', s.heap.get? b = some o' → h'.get? b = some o') →
      h'.get? s.heap.objs.size = some { cls := .type "list", dict := none, data := .seq its.toArray c', slots := #[] } → EP X pins σ Q (.ref s.heap.objs.size) { s with heap := h' } := fun its r' hz h' c' kp e =>
    ⟨.ref s.heap.objs.size, _, I.laid (t' := s.toks) kp (Nat.le_refl _) (show ObjOk X.prog X.w _ h' _ (.lst ys) from ⟨hz, its, c', r', e⟩), rfl, q _ (I.hok.fresh (Nat.le_refl _))⟩
  rcases hq with hq | hq
  · obtain ⟨its, r', pl, hz⟩ := I.list hq
    have hlen := r'.length
    obtain ⟨o, ho, hc, n, hd⟩ := pl.isList
    exact call_list_seq p (.inl rfl) ho hc hd (fun h' c' kp e => fin its r' hz h' c' kp e) (by simp only [List.size_toArray] <;> omega)
  · obtain ⟨its, r', pl, hz⟩ := I.tuple hq
    have hlen := r'.length
    obtain ⟨o, ho, hc, n, hd⟩ := pl
    exact call_list_seq p (.inr rfl) ho hc hd (fun h' c' kp e => fin its r' hz h' c' kp e) (by simp only [List.size_toArray] <;> omega)
theorem call_tuple_of : CallR X (.type "tuple") (fun xs H Q => ∃ p ys, xs = [.ref p] ∧ ((SqL X.K H p ys ∧ ∀ l, H l = none → Q (.ref l) (upd H l (.tup ys))) ∨ (SqT X.K H p ys ∧ Q (.ref p) H))) := by
  intro pins s σ H xs us Q I r h
  obtain ⟨p, ys, rfl, h⟩ := h
  obtain ⟨u, rfl, rx⟩ := vals1 r
  cases rx
  rcases h with ⟨hq, q⟩ | ⟨hq, q⟩
  · obtain ⟨its, r', pl, hz⟩ := I.list hq
    have hlen := r'.length
    refine call_tuple_list pl.isList (fun h' kp => ?_) (by simp only [List.size_toArray] <;> omega)
    have I1 : Inv X pins σ H { s with heap := h' } := I.kept (t' := s.toks) kp
    have I2 : Inv X pins σ (upd H h'.objs.size (.tup ys)) { s with heap := h'.push { cls := .type "tuple", data := .seq its.toArray } } :=
      I1.laid (t' := s.toks) (fun b o e => Heap.get?_push_of_some _ e) (Nat.le_refl _) (show ObjOk X.prog X.w _ _ _ (.tup ys) from ⟨hz, its, r', IsTup.new _ _⟩)
    exact ⟨.ref h'.objs.size, _, I2, rfl, q _ (I1.hok.fresh (Nat.le_refl _))⟩
  · obtain ⟨its, r', pl, hz⟩ := I.tuple hq
    exact call_tuple_same pl ⟨.ref p, H, I, rfl, q⟩

/-! ### the call of a builtin's method: o.m(..) -/
/-- the value is of that builtin type -/
def tyV (K : PySem.W.Frag) (T : String) (x : V) (H : Hp) : Prop := match x with
  | .str _ => T = "str"
  | .int _ => T = "int"
  | .ref p => (T = "list" ∧ ∃ xs, SqL K H p xs) ∨ (T = "tuple" ∧ ∃ o, K.lookup p = some o ∧ o.cls = .type "tuple" ∧ o.dict = none) ∨
      (T = "dict" ∧ ((∃ kvs, H p = some (.dK kvs)) ∨ ∃ kvs, H p = some (.dT kvs))) ∨ (T = "set" ∧ ∃ S n, H p = some (.set S n))
  | _ => False
theorem tyV_is {pins : List (Addr × Obj)} {σ : St} {H : Hp} {s : Shared} {T : String} {x : V} {v : Value} (I : Inv X pins σ H s) (r : RelV x v) (ty : tyV X.K T x H) :
    s.TypeIs v T ∧ ∀ a, v = .ref a → ∃ ob, s.heap.get? a = some ob ∧ ob.dict = none := by
  cases x with
  | str z =>
    obtain ⟨t, rfl⟩ := r
    cases (show T = "str" from ty)
    exact ⟨typeIs_str s z t, fun _ e => nomatch e⟩
  | int i =>
    obtain ⟨t, rfl⟩ := r
    cases (show T = "int" from ty)
    exact ⟨typeIs_int s i t, fun _ e => nomatch e⟩
  | ref p =>
    cases r
    rcases ty with ⟨rfl, xs, hq⟩ | ⟨rfl, o, hk, hc, hd⟩ | ⟨rfl, hk⟩ | ⟨rfl, S, n, hk⟩
    · obtain ⟨its, _, pl, _⟩ := I.list hq
      refine ⟨pl.isList.typeIs, fun a e => ?_⟩
      cases e
      obtain ⟨o, n, e, c, hd, _⟩ := pl
      exact ⟨o, e, hd⟩
    · refine ⟨⟨o, I.kIn p o hk, hc⟩, fun a e => ?_⟩
      cases e
      exact ⟨o, I.kIn _ o hk, hd⟩
    · have z : ∃ o, s.heap.get? p = some o ∧ o.ExactDict := by
        rcases hk with ⟨kvs, hk⟩ | ⟨kvs, hk⟩
        · obtain ⟨_, _, _, _, o, _, _, e, ex, _⟩ := I.hok p _ hk
          exact ⟨o, e, ex⟩
        · obtain ⟨_, _, _, _, o, _, _, e, ex, _⟩ := I.hok p _ hk
          exact ⟨o, e, ex⟩
      obtain ⟨o, e, ex⟩ := z
      refine ⟨⟨o, e, ex.1⟩, fun a e2 => ?_⟩
      cases e2
      exact ⟨o, e, ex.2.1⟩
    · obtain ⟨o, _, _, _, e, ex, _⟩ := I.hok p _ hk
      refine ⟨⟨o, e, ex.1⟩, fun a e2 => ?_⟩
      cases e2
      exact ⟨o, e, ex.2.1⟩
  | _ => exact False.elim ty
def tBM0 (K : PySem.W.Frag) (T : String) (r : V → List V → Hp → VK → Prop) (to : TE) : TE := fun σ H Q => to σ H fun x H1 => tyV K T x H1 ∧ r x [] H1 Q
def tBM (K : PySem.W.Frag) (T : String) (r : V → List V → Hp → VK → Prop) (to : TE) (t : TA) : TE := fun σ H Q => to σ H fun x H1 => tyV K T x H1 ∧ t σ H1 fun xs H2 => r x xs H2 Q
variable {o e : Expr} {es : List Expr} {to : TE} {t : TA} {name : Str} {apos cpos : Pos} {T id : String} {r : V → List V → Hp → VK → Prop}
theorem pe_bm0 (pa : PlainAttrs T) (slot : Slot T name id) (hty : typeOf (.builtin id) = pure (.type "method_descriptor")) (hm : MtR X id r) (ho : PE X o to)
    (hbase : attributeBase o name X.env (eval o X.env) = eval o X.env := by with_unfolding_all rfl) (hline : (apos.endLine == cpos.line) = true := by with_unfolding_all rfl) : PE X (.Call (.Attribute o name apos) [] [] cpos) (tBM0 X.K T r to) := by
  intro pins s σ H Q I h
  refine wpAny_Call_method0_late hbase hline (thn (ho pins s σ H _ I h) fun v s1 ⟨x, H1, I1, r1, ty, q1⟩ => ?_)
  obtain ⟨h1, h2⟩ := tyV_is I1 r1 ty
  exact ⟨T, id, pa, slot, hty, h1, h2, Calls.callWith_builtin rfl (PySem.evalArgs_none (hm pins s1 σ H1 x [] v [] Q I1 r1 .nil q1))⟩
theorem pe_bm (pa : PlainAttrs T) (slot : Slot T name id) (hty : typeOf (.builtin id) = pure (.type "method_descriptor")) (hm : MtR X id r) (ho : PE X o to) (ha : PA X (e :: es) t)
    (hbase : attributeBase o name X.env (eval o X.env) = eval o X.env := by with_unfolding_all rfl)
    (hfew : ((backTo cpos (starEach (e :: es) X.env)).all (fun x => !x.1) && (backToKw cpos (keywordEach [] X.env)).all (fun x => x.1.isSome)
      && decide ((e :: es).length + ([] : List Keyword).length + (if ([] : List Keyword).isEmpty then 0 else 1) < 30)) = true := by with_unfolding_all rfl)
    (hline : (apos.endLine == cpos.line) = true := by with_unfolding_all rfl) (hs : starEach (e :: es) X.env = (false, eval e X.env) :: starEach es X.env := by with_unfolding_all rfl) (hplain : (backTo cpos (starEach es X.env)).any (·.1) = false := by with_unfolding_all rfl) :
    PE X (.Call (.Attribute o name apos) (e :: es) [] cpos) (tBM X.K T r to t) := by
  intro pins s σ H Q I h
  refine wpAny_Call_method_late hbase hfew hline rfl (thn (ho pins s σ H _ I h) fun v s1 ⟨x, H1, I1, r1, ty, q1⟩ => ?_)
  obtain ⟨h1, h2⟩ := tyV_is I1 r1 ty
  refine ⟨T, id, pa, slot, hty, h1, h2, ?_⟩
  have hA := ha cpos pins s1 σ H1 _ I1 q1
  rw [hs] at hA ⊢
  refine Calls.callWith_builtin (by show (false || (backTo cpos (starEach es X.env)).any (·.1)) = false; rw [hplain] <;> rfl) (Calls.evalArgs_plain ?_)
  exact thn hA fun us s2 ⟨vs, H2, I2, r2, q2⟩ => hm pins s2 σ H2 x vs v us Q I2 r1 r2 q2
/- xs.append(e), list.index on a module's tuple .. are MtR facts of 06m -/
end
end L2

namespace L2
open PySem PySem.Spec PyProof.Rows

def MtM (X : Cx) (id : String) (r : V → List V → Hp → VK → Prop) : Prop :=
  ∀ (pins : List (Addr × Obj)) (s : Shared) (σ : St) (H : Hp) (x : V) (xs : List V) (v : Value) (us : List Value) (Q : VK), Inv X pins σ H s → RelV x v → Vals xs us → r x xs H Q →
    wpAny (model X.prog X.w) X.A (call (.builtin id) (v :: us)) (EP X pins σ Q) X.xe s

/-! ### lists of values -/
theorem Vals.one : ∀ {x : V} {us : List Value}, Vals [x] us → ∃ u, us = [u] ∧ RelV x u
  | _, _, .cons r .nil => ⟨_, rfl, r⟩
theorem Vals.two : ∀ {x y : V} {us : List Value}, Vals [x, y] us → ∃ u v, us = [u, v] ∧ RelV x u ∧ RelV y v
  | _, _, _, .cons r (.cons q .nil) => ⟨_, _, rfl, r, q⟩
theorem Vals.zero : ∀ {us : List Value}, Vals [] us → us = []
  | _, .nil => rfl
theorem Vals.dropLast {xs : List V} {us : List Value} (h : Vals xs us) : Vals xs.dropLast us.dropLast := by
  induction h with
  | nil => exact .nil
  | cons r t ih =>
    cases t with
    | nil => exact .nil
    | cons q t' => exact .cons r ih
theorem Vals.eraseIdx : ∀ {xs : List V} {us : List Value} (i : Nat), Vals xs us → Vals (xs.eraseIdx i) (us.eraseIdx i)
  | _, _, _, .nil => .nil
  | _, _, 0, .cons _ t => t
  | _, _, i + 1, .cons r t => .cons r (Vals.eraseIdx i t)
theorem Vals.reverse {xs : List V} {us : List Value} (h : Vals xs us) : Vals xs.reverse us.reverse := by
  induction h with
  | nil => exact .nil
  | cons r t ih => rw [List.reverse_cons, List.reverse_cons]; exact Vals.append ih (.cons r .nil)
theorem Vals.rep {xs : List V} {us : List Value} (h : Vals xs us) : ∀ k : Nat, Vals (List.replicate k xs).flatten (List.replicate k us).flatten
  | 0 => .nil
  | k + 1 => by
    rw [List.replicate_succ, List.replicate_succ, List.flatten_cons, List.flatten_cons]
    exact Vals.append h (Vals.rep h k)
theorem erase_last {α : Type} (l : List α) : l.eraseIdx (l.length - 1) = l.dropLast := by
  induction l with
  | nil => rfl
  | cons a r ih =>
    cases r with
    | nil => rfl
    | cons b r =>
      have e : (a :: b :: r).length - 1 = ((b :: r).length - 1) + 1 := by
        have h1 : (a :: b :: r).length = r.length + 2 := rfl
        have h2 : (b :: r).length = r.length + 1 := rfl
        omega
      rw [e, List.eraseIdx_cons_succ, ih]
      all_goals rfl
theorem len_erase {α : Type} : ∀ (l : List α) (i : Nat), (l.eraseIdx i).length ≤ l.length
  | [], _ => Nat.le_refl _
  | _ :: _, 0 => Nat.le_succ _
  | _ :: r, i + 1 => Nat.succ_le_succ (len_erase r i)
theorem foldl_rep (its : List Value) : ∀ (k : Nat) (acc : List Value),
    List.foldl (fun x1 x2 => x1 ++ x2) acc.toArray (List.replicate k its.toArray) = (acc ++ (List.replicate k its).flatten).toArray
  | 0, acc => by simp
  | k + 1, acc => by
    have e : acc.toArray ++ its.toArray = (acc ++ its).toArray := by simp
    have e2 : (acc ++ its) ++ (List.replicate k its).flatten = acc ++ (List.replicate (k + 1) its).flatten := by
      rw [List.replicate_succ, List.flatten_cons, List.append_assoc]
    rw [← e2, ← foldl_rep its k (acc ++ its), ← e, List.replicate_succ, List.foldl_cons]

section
variable {X : Cx} {pins : List (Addr × Obj)} {σ : St} {H : Hp} {s : Shared} {l b : Addr} {xs ys zs : List V}

/-! ### the two steps: a tracked list is rewritten, a new list is laid -/
theorem Inv.lset {its its' : List Value} {n : Nat} {f : Array Value → Array Value} {t' : Nat} (I : Inv X pins σ H s) (hH : H l = some (.lst xs))
    (e : s.heap.get? l = some { cls := .type "list", data := .seq its.toArray n }) (hf : f its.toArray = its'.toArray) (hv : Vals ys its') (hz : ys.length ≤ sizeLine) :
    Inv X pins σ (upd H l (.lst ys)) { s with heap := s.heap.update l (Obj.mapSeq f), toks := t' } := by
  have q := PySem.IsL.update e f
  rw [hf] at q
  refine I.write (x := l) (e := l) (by rw [hH]; exact trivial) (.inl rfl) (fun b' u hb hu => (Heap.get?_update_other s.heap (Obj.mapSeq f) (Ne.symm hb)).trans hu) ⟨_, q⟩ ?_
  exact ⟨hz, its', _, hv, q⟩
theorem Inv.lnew {its : List Value} {t' : Nat} (I : Inv X pins σ H s) (hv : Vals ys its) (hz : ys.length ≤ sizeLine) :
    Inv X pins σ (upd H s.heap.objs.size (.lst ys)) { s with heap := s.heap.push { cls := .type "list", data := .seq its.toArray }, toks := t' } :=
  I.laid (fun _ _ q => Heap.get?_push_of_some _ q) (Nat.le_refl _) ⟨hz, its, 0, hv, Heap.get?_push_size _ rfl⟩
theorem Inv.fresh (I : Inv X pins σ H s) : H s.heap.objs.size = none := I.hok.fresh (Nat.le_refl _)
theorem Inv.lstM (I : Inv X pins σ H s) (hH : H l = some (.lst xs)) : xs.length ≤ sizeLine ∧ ∃ (its : List Value) (n : Nat), Vals xs its ∧ xs.length = its.length ∧ s.heap.get? l = some { cls := .type "list", data := .seq its.toArray n } := by
  obtain ⟨z, its, n, r, e⟩ := I.hok l _ hH
  exact ⟨z, its, n, r, r.length, e⟩

theorem notLongL {n : Nat} (h : n ≤ sizeLine) : Builtin.List.listTooLong n = false := by
  unfold Builtin.List.listTooLong
  exact decide_eq_false (by omega)
end

section
variable {X : Cx}

/-! ### methods -/
def rAppend : V → List V → Hp → VK → Prop := fun x vs H Q => ∃ l xs y, x = .ref l ∧ vs = [y] ∧ H l = some (.lst xs) ∧ xs.length < sizeLine ∧ Q .non (upd H l (.lst (xs ++ [y])))
theorem mt_append : MtM X "list.append" rAppend := by
  intro pins s σ H x vs v us Q I rx rv h
  obtain ⟨l, xs, y, rfl, rfl, hH, hz, q⟩ := h
  cases rx
  obtain ⟨u, rfl, ru⟩ := rv.one
  obtain ⟨z, its, n, r, hl, e⟩ := I.lstM hH
  refine call_meets F.slot_list_append ⟨_, e, rfl⟩ F.entry_list_append (F.args_list_append_2 _ _) (PySem.list_append l its.toArray n u (by rw [List.size_toArray]; omega)) ⟨e, ?_⟩
  refine ⟨.non, _, I.lset (its' := its ++ [u]) hH e (by simp) (r.append (.cons ru .nil)) ?_, rfl, q⟩
  rw [List.length_append, List.length_singleton]
  omega

def rExtend : V → List V → Hp → VK → Prop := fun x vs H Q => ∃ l b xs zs, x = .ref l ∧ vs = [.ref b] ∧ H l = some (.lst xs) ∧ H b = some (.lst zs) ∧ xs.length + zs.length ≤ sizeLine ∧ Q .non (upd H l (.lst (xs ++ zs)))
theorem mt_extend : MtM X "list.extend" rExtend := by
  intro pins s σ H x vs v us Q I rx rv h
  obtain ⟨l, b, xs, zs, rfl, rfl, hH, hB, hz, q⟩ := h
  cases rx
  obtain ⟨u, rfl, ru⟩ := rv.one
  cases ru
  obtain ⟨z, its, n, r, hl, e⟩ := I.lstM hH
  obtain ⟨z2, its2, n2, r2, hl2, e2⟩ := I.lstM hB
  have hsz : its.toArray.size + its2.toArray.size ≤ sizeLine := by rw [List.size_toArray, List.size_toArray]; omega
  have hlong : ¬ (!its.toArray.isEmpty && Builtin.List.listTooLong (its.toArray.size + its2.toArray.size)) = true := by
    rw [notLongL hsz, Bool.and_false]
    exact Bool.false_ne_true
  refine call_meets F.slot_list_extend ⟨_, e, rfl⟩ F.entry_list_extend (F.args_list_extend_2 _ _)
    (AutoSeq1.list_extend_list_list_0 l its.toArray n b its2.toArray n2 hlong (by rw [List.size_toArray]; omega) (by omega)) ⟨e, e2, ?_⟩
  refine ⟨.non, _, I.lset (its' := its ++ its2) hH e (by simp) (r.append r2) ?_, rfl, q⟩
  rw [List.length_append]
  omega

def rPop : V → List V → Hp → VK → Prop := fun x vs H Q => ∃ l xs y, x = .ref l ∧ vs = [] ∧ H l = some (.lst xs) ∧ xs[xs.length - 1]? = some y ∧ Q y (upd H l (.lst xs.dropLast))
theorem mt_pop : MtM X "list.pop" rPop := by
  intro pins s σ H x vs v us Q I rx rv h
  obtain ⟨l, xs, y, rfl, rfl, hH, hy, q⟩ := h
  cases rx
  have hus := rv.zero
  subst hus
  obtain ⟨z, its, n, r, hl, e⟩ := I.lstM hH
  obtain ⟨u, hu, ru⟩ := r.get hy
  have hy' : its.toArray[its.toArray.size - 1]? = some u := by
    show its.toArray[its.length - 1]? = some u
    rw [← Array.getElem?_toList, ← hl]
    exact hu
  refine call_meets F.slot_list_pop ⟨_, e, rfl⟩ F.entry_list_pop (F.args_list_pop_1 _) (MeetsSeq.list_pop_last l its.toArray n u hy' (by rw [List.size_toArray]; omega)) ⟨e, ?_⟩
  refine ⟨y, _, I.lset (its' := its.dropLast) hH e ?_ r.dropLast ?_, ru, q⟩
  · show its.toArray.eraseIdxIfInBounds (its.toArray.size - 1) = its.dropLast.toArray
    rw [List.size_toArray, List.eraseIdxIfInBounds_toArray, erase_last]
  · rw [List.length_dropLast]
    omega

def rPopAt : V → List V → Hp → VK → Prop := fun x vs H Q => ∃ l xs i k y, x = .ref l ∧ vs = [.int i] ∧ H l = some (.lst xs) ∧ -(2 ^ 63) ≤ i ∧ i < 2 ^ 63 ∧ seqIndex? i xs.length = some k ∧ xs[k]? = some y ∧ Q y (upd H l (.lst (xs.eraseIdx k)))
theorem mt_popAt : MtM X "list.pop" rPopAt := by
  intro pins s σ H x vs v us Q I rx rv h
  obtain ⟨l, xs, i, k, y, rfl, rfl, hH, h1, h2, hk, hy, q⟩ := h
  cases rx
  obtain ⟨u, rfl, ru⟩ := rv.one
  obtain ⟨t, rfl⟩ := ru
  obtain ⟨z, its, n, r, hl, e⟩ := I.lstM hH
  obtain ⟨w, hw, rw'⟩ := r.get hy
  refine call_meets F.slot_list_pop ⟨_, e, rfl⟩ F.entry_list_pop (F.args_list_pop_2 _ _)
    (MeetsSeq.list_pop_at l its.toArray n i t k w (fitsIndex_both h1 h2) (by rw [List.size_toArray, ← hl]; exact hk) (by rw [← Array.getElem?_toList]; exact hw) (by rw [List.size_toArray]; omega)) ⟨e, ?_⟩
  refine ⟨y, _, I.lset (its' := its.eraseIdx k) hH e ?_ (r.eraseIdx k) ?_, rw', q⟩
  · show its.toArray.eraseIdxIfInBounds k = (its.eraseIdx k).toArray
    rw [List.eraseIdxIfInBounds_toArray]
  · have := len_erase xs k
    omega

def rReverse : V → List V → Hp → VK → Prop := fun x vs H Q => ∃ l xs, x = .ref l ∧ vs = [] ∧ H l = some (.lst xs) ∧ Q .non (upd H l (.lst xs.reverse))
theorem mt_reverse : MtM X "list.reverse" rReverse := by
  intro pins s σ H x vs v us Q I rx rv h
  obtain ⟨l, xs, rfl, rfl, hH, q⟩ := h
  cases rx
  have hus := rv.zero
  subst hus
  obtain ⟨z, its, n, r, hl, e⟩ := I.lstM hH
  refine call_meets F.slot_list_reverse ⟨_, e, rfl⟩ F.entry_list_reverse (F.args_list_reverse_1 _) (AutoSeq1.list_reverse_list_0 l its.toArray n (by rw [List.size_toArray]; omega)) ⟨e, ?_⟩
  refine ⟨.non, _, I.lset (its' := its.reverse) hH e (by simp) r.reverse ?_, rfl, q⟩
  rw [List.length_reverse]
  omega

def rClear : V → List V → Hp → VK → Prop := fun x vs H Q => ∃ l xs, x = .ref l ∧ vs = [] ∧ H l = some (.lst xs) ∧ Q .non (upd H l (.lst []))
theorem mt_clear : MtM X "list.clear" rClear := by
  intro pins s σ H x vs v us Q I rx rv h
  obtain ⟨l, xs, rfl, rfl, hH, q⟩ := h
  cases rx
  have hus := rv.zero
  subst hus
  obtain ⟨z, its, n, r, hl, e⟩ := I.lstM hH
  refine call_meets F.slot_list_clear ⟨_, e, rfl⟩ F.entry_list_clear (F.args_list_clear_1 _) (AutoSeq1.list_clear_list_0 l its.toArray n (by rw [List.size_toArray]; omega)) ⟨e, ?_⟩
  exact ⟨.non, _, I.lset (its' := []) (ys := []) hH e rfl .nil (Nat.zero_le _), rfl, q⟩

/-! ### list + list, list += list, list * int -/
def rCat : R2 := fun x y H Q => ∃ l b xs zs, x = .ref l ∧ y = .ref b ∧ H l = some (.lst xs) ∧ H b = some (.lst zs) ∧ xs.length + zs.length ≤ sizeLine ∧ ∀ p, H p = none → Q (.ref p) (upd H p (.lst (xs ++ zs)))
theorem op_cat : OpR X (binaryOp .Add) rCat := by
  intro pins s σ H x y v u Q I rx ry h
  obtain ⟨l, b, xs, zs, rfl, rfl, hH, hB, hz, q⟩ := h
  cases rx
  cases ry
  obtain ⟨z, its, n, r, hl, e⟩ := I.lstM hH
  obtain ⟨z2, its2, n2, r2, hl2, e2⟩ := I.lstM hB
  refine PySem.P.add_list e e2 ?_ (by rw [List.size_toArray, List.size_toArray]; omega)
  have ea : its.toArray ++ its2.toArray = (its ++ its2).toArray := by simp
  rw [ea]
  exact ⟨.ref _, _, I.lnew (t' := s.toks) (r.append r2) (by rw [List.length_append]; omega), rfl, q _ I.fresh⟩
/-- a list times an int (a negative one is nothing) -/
def rRep : R2 := fun x y H Q => ∃ l k xs, x = .ref l ∧ y = .int k ∧ H l = some (.lst xs) ∧ -(2 ^ 63) ≤ k ∧ k < 2 ^ 63 ∧ xs.length * k.toNat ≤ sizeLine ∧
  ∀ p, H p = none → Q (.ref p) (upd H p (.lst (List.replicate k.toNat xs).flatten))
theorem len_rep {α : Type} (xs : List α) (k : Nat) : (List.replicate k xs).flatten.length = k * xs.length := by
  induction k with
  | zero => simp
  | succ k ih => rw [List.replicate_succ, List.flatten_cons, List.length_append, ih, Nat.succ_mul, Nat.add_comm]
theorem op_rep : OpR X (binaryOp .Mult) rRep := by
  intro pins s σ H x y v u Q I rx ry h
  obtain ⟨l, k, xs, rfl, rfl, hH, h1, h2, hz, q⟩ := h
  cases rx
  obtain ⟨t, rfl⟩ := ry
  obtain ⟨z, its, n, r, hl, e⟩ := I.lstM hH
  have hlen : its.toArray.size * k.toNat ≤ sizeLine := by rw [List.size_toArray, ← hl]; exact hz
  have hcap : ¬ its.toArray.size * k.toNat > (2 ^ 63 - 1) / 8 := by
    have : (sizeLine : Nat) ≤ (2 ^ 63 - 1) / 8 := by decide
    omega
  have hfit : ¬ (!Builtin.List.listFitsIndex k) = true := by
    rw [fitsIndex_both h1 h2]
    exact Bool.false_ne_true
  have hlong : ¬ Builtin.List.listTooLong (its.toArray.size * k.toNat) = true := by
    rw [notLongL hlen]
    exact Bool.false_ne_true
  have hnew : List.foldl (fun x1 x2 => x1 ++ x2) #[] (List.replicate (if its.toArray.isEmpty = true then 0 else k.toNat) its.toArray) = (List.replicate k.toNat its).flatten.toArray := by
    have f0 : ∀ m : Nat, List.foldl (fun x1 x2 => x1 ++ x2) #[] (List.replicate m its.toArray) = (List.replicate m its).flatten.toArray := fun m => by
      have := foldl_rep its m []
      rw [List.nil_append] at this
      exact this
    rw [f0]
    cases its with
    | nil => simp
    | cons a r' => rw [if_neg (by simp)]
  refine wpAny_binaryOp_repeat_ref (T := "list") (U := "int") (by decide) ⟨_, e, rfl⟩ (fun s' => typeIs_int s' k t) noFill_list_mul F.fills_int_mul F.slot_int_rmul repeat_list F.slot_int_index.lookup
    (call_meets F.slot_int_rmul (typeIs_int s k t) F.entry_int_rmul (F.args_int_rmul_2 _ _) (int___rmul___int_list k t l its.toArray n)
      ⟨e, rfl, ⟨_, e, rfl⟩, call_meets F.slot_list_mul ⟨_, e, rfl⟩ F.entry_list_mul (F.args_list_mul_2 _ _) (AutoListH.list___mul___list_int_3 l its.toArray n k t hfit hcap hlong) ⟨e, ?_⟩⟩)
  rw [hnew]
  exact ⟨.ref _, _, I.lnew (t' := s.toks) (r.rep k.toNat) (by rw [len_rep, Nat.mul_comm]; exact hz), rfl, q _ I.fresh⟩

/-! ### del xs[i] -/
theorem del_list {pins : List (Addr × Obj)} {s : Shared} {σ : St} {H : Hp} {l : Addr} {xs : List V} {i : Int} {t : Tok} {k : Nat} {Q : Unit → Shared → Prop} (I : Inv X pins σ H s) (hH : H l = some (.lst xs))
    (h1 : -(2 ^ 63) ≤ i) (h2 : i < 2 ^ 63) (hk : seqIndex? i xs.length = some k) (h : ∀ s', Inv X pins σ (upd H l (.lst (xs.eraseIdx k))) s' → Q () s') :
    wpAny (model X.prog X.w) X.A (delItem (.ref l) (.int i t)) Q X.xe s := by
  obtain ⟨z, its, n, r, hl, e⟩ := I.lstM hH
  refine PySem.P.delItem_list (k := k) e (fitsIndex_both h1 h2) (by rw [List.size_toArray, ← hl]; exact hk) (h _ ?_) (by rw [List.size_toArray]; omega)
  refine I.lset (its' := its.eraseIdx k) (t' := s.toks) hH e ?_ (r.eraseIdx k) ?_
  · show its.toArray.eraseIdxIfInBounds k = (its.eraseIdx k).toArray
    rw [List.eraseIdxIfInBounds_toArray]
  · have := len_erase xs k
    omega
end

/-! ### xs[a:b] = ys -/
section
variable {prog : Program} {w : World} {A : Around} {E : Value → Shared → Prop} {s : Shared}
theorem splice_eq (its its2 : List Value) (a c : Nat) : its.toArray.extract 0 a ++ its2.toArray ++ its.toArray.extract c its.toArray.size = (its.take a ++ its2 ++ its.drop c).toArray := by
  apply Array.toList_inj.mp
  first
    | (simp
       exact List.take_of_length_le (by simp))
    | simp [List.take_of_length_le]
    | simp
theorem bounds_run {a c n : Nat} (hac : a ≤ c) (hc : c ≤ n) : sliceBounds (some (a : Int)) (some (c : Int)) none n = ((a : Int), (c : Int), 1) := by
  simp only [sliceBounds, Option.getD_none]
  have h1 : ¬ ((a : Int) < 0) := by omega
  have h2 : ¬ ((c : Int) < 0) := by omega
  simp only [h1, h2, if_false, show (1 : Int) > 0 by decide, if_true]
  congr 1
  · omega
  · congr 1; omega
set_option maxRecDepth 100000 in
/-- list.__setitem__ with a slice of step one and another list -/
theorem setItem_slice {l b sl : Addr} {items new : Array Value} {n n2 : Nat} {vl vu : Value} {a c : Nat} {Q : Unit → Shared → Prop}
    (e : s.heap.get? l = some { cls := .type "list", data := .seq items n }) (e2 : s.heap.get? b = some { cls := .type "list", data := .seq new n2 }) (hne : l ≠ b)
    (hs : s.heap.IsSliceOf sl vl vu .none) (pl : IsPart vl (some (a : Int))) (pu : IsPart vu (some (c : Int))) (hac : a ≤ c) (hc : c ≤ items.size)
    (hsz : items.size + new.size ≤ sizeLine) (h : Q () { s with heap := s.heap.update l (Obj.mapSeq fun xs => xs.extract 0 a ++ new ++ xs.extract c xs.size) }) :
    wpAny (model prog w) A (setItem (.ref l) (.ref sl) (.ref b)) Q E s := by
  have hl : s.heap.IsList l items := PySem.IsL.isList e
  have hb : s.heap.IsList b new := PySem.IsL.isList e2
  obtain ⟨os, hos, hcs, hds⟩ := id hs
  have hTs : s.TypeIs (.ref sl) "slice" := ⟨os, hos, hcs⟩
  have hstep : ¬ ((rawPart none == rawInt 0) = true) := Bool.false_ne_true
  have hsame : Builtin.List.listSameRef (.ref l) (.ref b) = false := by
    unfold Builtin.List.listSameRef
    exact beq_eq_false_iff_ne.mpr hne
  have hmax : (max (a : Int) (c : Int)).toNat = c := by omega
  have hz' : ((fun xs : Array Value => xs.extract 0 a ++ new ++ xs.extract c xs.size) items).size ≤ sizeLine + 1 := by
    simp only [Array.size_append, Array.size_extract]
    omega
  unfold setItem
  try with_reducible refine wpAny_holding ?_
  first | refine wpAny_bind (wpAny_pure ?_) | skip
  refine wpAny_bind (wpAny_sequenceKey hl.typeIs (by decide) ?_)
  refine wpAny_bind (wpAny_callSpecial?_slot (name := Str.ofString "__setitem__") hl.typeIs slot_list_setitem
    (wpAny_call_entry slot_list_setitem hl.typeIs entry_list_setitem ?_ (args_list_setitem _ _ _)))
  show wpAny _ _ (Builtin.List.listSubscript? (.ref sl) >>= _) _ _ s
  refine wpAny_bind ?_
  unfold Builtin.List.listSubscript?
  refine wpAny_bind (wpAny_specialOf hTs slice_no_index ?_)
  simp only [Option.isNone_none, if_true]
  refine wpAny_pure ?_
  show wpAny _ _ (typeOf (.ref sl) >>= _) _ _ s
  refine wpAny_bind (wpAny_typeOf hTs ?_)
  first
    | rw [if_neg (by decide)]
    | refine PySem.W.KFB.if_not (by decide) ?_
  rw [listSliceParts_eq]
  refine wpAny_bind (wpAny_bind (wpAny_field hos hds (x := .none) rfl (wpAny_bind (wpAny_listPart .none ?_))))
  rw [if_neg hstep]
  refine wpAny_bind (wpAny_field hos hds (x := vl) rfl (wpAny_bind (wpAny_listPart pl ?_)))
  refine wpAny_bind (wpAny_field hos hds (x := vu) rfl (wpAny_bind (wpAny_listPart pu (wpAny_pure ?_))))
  first
    | simp only [hsame, Bool.false_eq_true, if_false]
    | refine PySem.W.KFB.if_not hsame ?_
    | (dsimp only
       rw [if_neg (by rw [hsame]; exact Bool.false_ne_true)])
  refine wpAny_bind (m := Builtin.List.listAllItems (.ref b) "must assign iterable to extended slice") ?_
  unfold Builtin.List.listAllItems
  refine wpAny_bind (wpAny_typeOf hb.typeIs ?_)
  first
    | refine PySem.W.KFB.if_so (by decide) ?_
    | rw [if_pos (by decide)]
    | simp only [beq_self_eq_true, Bool.true_or, if_true]
  unfold Builtin.List.listItems
  refine wpAny_bind (wpAny_seqItems e2 rfl (wpAny_pure ?_))
  refine wpAny_bind (wpAny_bind (wpAny_seqItems e rfl (wpAny_pure ?_)))
  refine wpAny_bind (wpAny_of_eq ((sliceIndices_raw (some (a : Int)) (some (c : Int)) none items.size (by simp)).trans (congrArg (pure : Int × Int × Int → Sem (Int × Int × Int)) (bounds_run hac hc))) ?_)
  show wpAny _ _ (if ((1 : Int) == 1) = true then _ else _) _ _ s
  rw [if_pos (by decide)]
  refine wpAny_bind (wpAny_rule ?_)
  first
    | simp only [notLongL hsz, Bool.false_eq_true, if_false]
    | refine PySem.W.KFB.if_not (notLongL hsz) ?_
  first | refine wpAny_bind (wpAny_pure ?_) | skip
  show wpAny _ _ (updateSeq l (fun xs => xs.extract 0 ((a : Int)).toNat ++ new ++ xs.extract (max (a : Int) (c : Int)).toNat xs.size) >>= _) _ _ s
  rw [hmax, Int.toNat_natCast]
  refine wpAny_bind (wpAny_updateSeq (hz := Nat.le_trans (Nat.le_add_right _ _) hsz) (_hz' := hz') e rfl ?_)
  refine wpAny_bind (wpAny_letGo ?_)
  first
    | exact wpAny_bind (wpAny_pure (wpAny_pure ⟨.none, rfl, wpAny_pure h⟩))
    | exact wpAny_pure ⟨.none, rfl, wpAny_pure h⟩
end

section
variable {X : Cx}
/-- xs[a:c] = ys of another list, at the value level: sl is the slice object that was just made -/
theorem set_slice {pins : List (Addr × Obj)} {s : Shared} {σ : St} {H : Hp} {l b sl : Addr} {xs ys : List V} {a c : Int} {vl vu : Value} {Q : Unit → Shared → Prop} (I : Inv X pins σ H s)
    (hH : H l = some (.lst xs)) (hB : H b = some (.lst ys)) (hne : l ≠ b) (hs : s.heap.IsSliceOf sl vl vu .none) (ra : RelV (.int a) vl) (rc : RelV (.int c) vu) (h0 : 0 ≤ a) (hac : a ≤ c) (hc : c ≤ xs.length)
    (hz : xs.length + ys.length ≤ sizeLine) (h : ∀ s', Inv X pins σ (upd H l (.lst (xs.take a.toNat ++ ys ++ xs.drop c.toNat))) s' → Q () s') :
    wpAny (model X.prog X.w) X.A (setItem (.ref l) (.ref sl) (.ref b)) Q X.xe s := by
  obtain ⟨ta, rfl⟩ := ra
  obtain ⟨tc, rfl⟩ := rc
  obtain ⟨z, its, n, r, hl, e⟩ := I.lstM hH
  obtain ⟨z2, its2, n2, r2, hl2, e2⟩ := I.lstM hB
  obtain ⟨a', rfl⟩ := Int.eq_ofNat_of_zero_le h0
  obtain ⟨c', rfl⟩ := Int.eq_ofNat_of_zero_le (Int.le_trans h0 hac)
  simp only [Int.toNat_natCast] at h
  refine setItem_slice (a := a') (c := c') e e2 hne hs (.int _ _) (.int _ _) (by omega) (by rw [List.size_toArray]; omega) (by rw [List.size_toArray, List.size_toArray]; omega) (h _ ?_)
  refine I.lset (its' := its.take a' ++ its2 ++ its.drop c') (t' := s.toks) hH e ?_ (Vals.append (Vals.append (r.take _) r2) (r.drop _)) ?_
  · exact splice_eq its its2 a' c'
  · rw [List.length_append, List.length_append, List.length_take, List.length_drop]
    omega
end
end L2

namespace L2
open PySem PySem.Spec PyProof.Rows

/-! ### lists of pairs as tables -/
section
variable {κ : Type} [DecidableEq κ]
def valV (kvs : List (κ × V)) (k : κ) : Option V := (kvs.find? fun kv => decide (kv.1 = k)).map (·.2)
/-- in its place, or at the end -/
def putK (kvs : List (κ × V)) (k : κ) (v : V) : List (κ × V) :=
  if (kvs.any fun kv => decide (kv.1 = k)) = true then kvs.map (fun kv => if kv.1 = k then (kv.1, v) else kv) else kvs ++ [(k, v)]
def dropK (kvs : List (κ × V)) (k : κ) : List (κ × V) := kvs.filter fun kv => decide (kv.1 ≠ k)

theorem valV_nil {k : κ} : valV ([] : List (κ × V)) k = none := rfl
theorem valV_pos {p : κ × V} {r : List (κ × V)} {k : κ} (e : p.1 = k) : valV (p :: r) k = some p.2 := by simp [valV, List.find?_cons, e]
theorem valV_neg {p : κ × V} {r : List (κ × V)} {k : κ} (e : ¬ p.1 = k) : valV (p :: r) k = valV r k := by simp [valV, List.find?_cons, e]
theorem valV_any (k : κ) : ∀ kvs : List (κ × V), (kvs.any fun kv => decide (kv.1 = k)) = (valV kvs k).isSome
  | [] => rfl
  | p :: r => by
    rw [List.any_cons]
    by_cases e : p.1 = k
    · simp only [valV_pos e, decide_eq_true e, Bool.true_or, Option.isSome_some]
    · rw [valV_neg e, decide_eq_false e, Bool.false_or]; exact valV_any k r
theorem valV_map (k j : κ) (y : V) : ∀ kvs : List (κ × V), valV (kvs.map fun kv => if kv.1 = k then (kv.1, y) else kv) j = (valV kvs j).map fun x => if j = k then y else x
  | [] => rfl
  | p :: r => by
    have ih := valV_map k j y r
    rw [List.map_cons]
    by_cases h : p.1 = k
    · rw [if_pos h]
      by_cases e : p.1 = j
      · rw [valV_pos (p := (p.1, y)) e, valV_pos e, Option.map_some, if_pos (e.symm.trans h)]
      · rw [valV_neg (p := (p.1, y)) e, valV_neg e, ih]
    · rw [if_neg h]
      by_cases e : p.1 = j
      · rw [valV_pos (p := p) e, valV_pos e, Option.map_some, if_neg (fun z => h (e.trans z))]
      · rw [valV_neg (p := p) e, valV_neg e, ih]
theorem valV_snoc (k j : κ) (y : V) : ∀ kvs : List (κ × V), valV kvs k = none → valV (kvs ++ [(k, y)]) j = if j = k then some y else valV kvs j
  | [], _ => by
    by_cases e : k = j
    · rw [if_pos e.symm]; exact valV_pos (p := (k, y)) e
    · rw [if_neg (fun z => e z.symm)]; exact valV_neg (p := (k, y)) e
  | p :: r, hn => by
    rw [List.cons_append]
    have hk : ¬ p.1 = k := fun z => by rw [valV_pos z] at hn; cases hn
    rw [valV_neg hk] at hn
    have ih := valV_snoc k j y r hn
    by_cases e : p.1 = j
    · rw [valV_pos e, valV_pos e, if_neg (fun z => hk (e.trans z))]
    · rw [valV_neg e, valV_neg e, ih]
theorem valV_put (kvs : List (κ × V)) (k j : κ) (y : V) : valV (putK kvs k y) j = if j = k then some y else valV kvs j := by
  unfold putK
  by_cases a : (kvs.any fun kv => decide (kv.1 = k)) = true
  · rw [if_pos a, valV_map]
    rw [valV_any] at a
    by_cases e : j = k
    · obtain ⟨x, hx⟩ := Option.isSome_iff_exists.mp a
      rw [if_pos e, e, hx, Option.map_some, if_pos rfl]
    · rw [if_neg e]
      cases valV kvs j with
      | none => rfl
      | some x => rw [Option.map_some, if_neg e]
  · rw [if_neg a]
    refine valV_snoc k j y kvs ?_
    rw [valV_any] at a
    cases q : valV kvs k with
    | none => rfl
    | some x => rw [q] at a; exact (a rfl).elim
theorem length_putK (kvs : List (κ × V)) (k : κ) (v : V) : (putK kvs k v).length ≤ kvs.length + 1 := by
  unfold putK
  split
  · rw [List.length_map]; omega
  · rw [List.length_append, List.length_cons, List.length_nil]; omega
theorem putK_new {kvs : List (κ × V)} {k : κ} (v : V) (h : valV kvs k = none) : putK kvs k v = kvs ++ [(k, v)] := by
  unfold putK
  rw [valV_any, h]
  exact if_neg (by decide)

theorem RelO.isSome_eq {o : Option V} {u : Option Value} (r : RelO o u) : o.isSome = u.isSome := by
  cases o with
  | none => cases u with
    | none => rfl
    | some _ => exact (show False from r).elim
  | some _ => cases u with
    | none => exact (show False from r).elim
    | some _ => rfl
theorem RelO.getD {o : Option V} {u : Option Value} {d : V} {d' : Value} (r : RelO o u) (rd : RelV d d') : RelV (o.getD d) (u.getD d') := by
  cases o with
  | none => cases u with
    | none => exact rd
    | some _ => exact (show False from r).elim
  | some _ => cases u with
    | none => exact (show False from r).elim
    | some _ => exact r

/-- raw tables of the same keys -/
theorem KV.val {kvs : List (κ × V)} {vs : List (κ × Value)} (r : KV kvs vs) (k : κ) : RelO (valV kvs k) (valueAt vs k) := by
  unfold KV at r
  induction r with
  | nil => exact True.intro
  | @cons p q ps qs h t ih =>
    obtain ⟨h1, h2⟩ := h
    by_cases e : p.1 = k
    · have e' : q.1 = k := h1.symm.trans e
      have b : valueAt (q :: qs) k = some q.2 := by simp [valueAt, List.find?_cons, e']
      rw [valV_pos e, b]; exact h2
    · have e' : ¬ q.1 = k := fun z => e (h1.trans z)
      have b : valueAt (q :: qs) k = valueAt qs k := by simp [valueAt, List.find?_cons, e']
      rw [valV_neg e, b]; exact ih
theorem KV.any {kvs : List (κ × V)} {vs : List (κ × Value)} (r : KV kvs vs) (k : κ) : (kvs.any fun kv => decide (kv.1 = k)) = vs.any fun kv => decide (kv.1 = k) := by
  unfold KV at r
  induction r with
  | nil => rfl
  | cons h t ih => rw [List.any_cons, List.any_cons, ih, h.1]
theorem KV.repl {kvs : List (κ × V)} {vs : List (κ × Value)} (r : KV kvs vs) (k : κ) {y : V} {u : Value} (ry : RelV y u) :
    KV (kvs.map fun kv => if kv.1 = k then (kv.1, y) else kv) (vs.map fun kv => if kv.1 = k then (kv.1, u) else kv) := by
  unfold KV at r ⊢
  induction r with
  | nil => exact .nil
  | @cons p q ps qs h t ih =>
    rw [List.map_cons, List.map_cons]
    refine .cons ?_ ih
    obtain ⟨h1, h2⟩ := h
    by_cases e : p.1 = k
    · rw [if_pos e, if_pos (h1.symm.trans e)]; exact ⟨h1, ry⟩
    · rw [if_neg e, if_neg (fun z => e (h1.trans z))]; exact ⟨h1, h2⟩
theorem KV.put {kvs : List (κ × V)} {vs : List (κ × Value)} (r : KV kvs vs) (k : κ) {y : V} {u : Value} (ry : RelV y u) : KV (putK kvs k y) (stored vs k u) := by
  unfold putK stored
  rw [r.any k]
  by_cases e : (vs.any fun kv => decide (kv.1 = k)) = true
  · rw [if_pos e, if_pos e]; exact r.repl k ry
  · rw [if_neg e, if_neg e]; exact Paired.snoc r ⟨rfl, ry⟩
theorem KV.drop {kvs : List (κ × V)} {vs : List (κ × Value)} (r : KV kvs vs) (k : κ) : KV (dropK kvs k) (without vs k) := by
  unfold KV at r ⊢
  unfold dropK without
  induction r with
  | nil => exact .nil
  | @cons p q ps qs h t ih =>
    obtain ⟨h1, h2⟩ := h
    rw [List.filter_cons, List.filter_cons]
    by_cases e : p.1 = k
    · have a : ¬ decide (p.1 ≠ k) = true := by simp [e]
      have b : ¬ decide (q.1 ≠ k) = true := by simp [h1.symm.trans e]
      rw [if_neg a, if_neg b]; exact ih
    · have e' : ¬ q.1 = k := fun z => e (h1.trans z)
      have a : decide (p.1 ≠ k) = true := by simp [e]
      have b : decide (q.1 ≠ k) = true := by simp [e']
      rw [if_pos a, if_pos b]; exact .cons ⟨h1, h2⟩ ih
theorem KV.keys {kvs : List (κ × V)} {vs : List (κ × Value)} (r : KV kvs vs) : kvs.map (·.1) = vs.map (·.1) := by
  unfold KV at r
  induction r with
  | nil => rfl
  | cons h t ih => rw [List.map_cons, List.map_cons, ih, h.1]
theorem KV.length {kvs : List (κ × V)} {vs : List (κ × Value)} (r : KV kvs vs) : kvs.length = vs.length := Paired.length r
theorem dropK_le (kvs : List (κ × V)) (k : κ) : (dropK kvs k).length ≤ kvs.length := List.length_filter_le _ _
end


/-! ### a tracked dict, its keys ints and texts or tuples of these -/
theorem kV_is {P : Program} {w : World} {k : Key} {u : Value} (r : RelV (kV k) u) : (mixKind P w).is k u = true := by
  cases k with
  | inl i => obtain ⟨t, e⟩ := (show ∃ t, u = Value.int i t from r); subst e; exact mixKind_int P w i t
  | inr x => obtain ⟨t, e⟩ := (show ∃ t, u = Value.str x t from r); subst e; exact mixKind_str P w x t
theorem kV_inj {a b : Key} (e : kV a = kV b) : a = b := by
  cases a with
  | inl i => cases b with
    | inl j => have e' : V.int i = V.int j := e; injection e' with e'; rw [e']
    | inr y => exact nomatch (show V.int i = V.str y from e)
  | inr x => cases b with
    | inl j => exact nomatch (show V.str x = V.int j from e)
    | inr y => have e' : V.str x = V.str y := e; injection e' with e'; rw [e']
theorem kVs_inj : ∀ {a b : List Key}, a.map kV = b.map kV → a = b
  | [], [], _ => rfl
  | [], _ :: _, e => by simp at e
  | _ :: _, [], e => by simp at e
  | x :: xs, y :: ys, e => by
    rw [List.map_cons, List.map_cons] at e
    injection e with e1 e2
    rw [kV_inj e1, kVs_inj e2]
theorem items_are {P : Program} {w : World} : ∀ {ks : List Key} {us : List Value}, Vals (ks.map kV) us → ItemsAre (mixKind P w) ks us
  | [], _, r => by rw [List.map_nil] at r; cases r; exact .nil
  | k :: ks, _, r => by
    rw [List.map_cons] at r
    cases r with
    | cons h t => exact .cons (kV_is h) (items_are t)

/-- raw entries of a dict with tuple keys -/
abbrev KT (H : Hp) : List (List Key × V) → List (List Key × Addr × Value) → Prop := Paired fun p q => p.1 = q.1 ∧ H q.2.1 = some (.tup (p.1.map kV)) ∧ RelV p.2 q.2.2
theorem KT.val {H : Hp} {kvs : List (List Key × V)} {xs : List (List Key × Addr × Value)} (r : KT H kvs xs) (k : List Key) : RelO (valV kvs k) ((atKey xs k).map (·.2)) := by
  induction r with
  | nil => exact True.intro
  | @cons p q ps qs h t ih =>
    obtain ⟨h1, _, h2⟩ := h
    by_cases e : p.1 = k
    · have e' : q.1 = k := h1.symm.trans e
      have b : atKey (q :: qs) k = some q.2 := by simp [atKey, List.find?_cons, e']
      rw [valV_pos e, b]; exact h2
    · have e' : ¬ q.1 = k := fun z => e (h1.trans z)
      have b : atKey (q :: qs) k = atKey qs k := by simp [atKey, List.find?_cons, e']
      rw [valV_neg e, b]; exact ih
theorem KT.repl {H : Hp} {kvs : List (List Key × V)} {xs : List (List Key × Addr × Value)} (r : KT H kvs xs) (k : List Key) {y : V} {u : Value} (ry : RelV y u) :
    KT H (kvs.map fun kv => if kv.1 = k then (kv.1, y) else kv) (xs.map (putAt k u)) := by
  induction r with
  | nil => exact .nil
  | @cons p q ps qs h t ih =>
    rw [List.map_cons, List.map_cons]
    refine .cons ?_ ih
    obtain ⟨h1, h2, h3⟩ := h
    unfold putAt
    by_cases e : p.1 = k
    · rw [if_pos e, if_pos (h1.symm.trans e)]; exact ⟨h1, h2, ry⟩
    · rw [if_neg e, if_neg (fun z => e (h1.trans z))]; exact ⟨h1, h2, h3⟩
theorem KT.put {H : Hp} {kvs : List (List Key × V)} {xs : List (List Key × Addr × Value)} (r : KT H kvs xs) (k : List Key) {b : Addr} {y : V} {u : Value} (hb : H b = some (.tup (k.map kV))) (ry : RelV y u) :
    KT H (putK kvs k y) (storedH xs k b u) := by
  have e : (kvs.any fun kv => decide (kv.1 = k)) = (atKey xs k).isSome := by
    rw [valV_any, (r.val k).isSome_eq, Option.isSome_map]
  unfold putK storedH
  rw [e]
  by_cases q : (atKey xs k).isSome = true
  · rw [if_pos q, if_pos q]; exact r.repl k ry
  · rw [if_neg q, if_neg q]; exact Paired.snoc r ⟨rfl, hb, ry⟩
theorem KT.keeps {H H' : Hp} {kvs : List (List Key × V)} {xs : List (List Key × Addr × Value)} (r : KT H kvs xs) (ht : ∀ b ys, H b = some (.tup ys) → H' b = some (.tup ys)) : KT H' kvs xs :=
  Paired.mapP r fun _ _ z => ⟨z.1, ht _ _ z.2.1, z.2.2⟩

section
variable {P : Program} {w : World} {H : Hp} {h : Heap} {a : Addr}
theorem rd_of {u : HO} (ok : HOk P w H h) (e : Rd H a u) : ObjOk P w H h a u := e.ok ok
theorem dk_rd {kvs : List (Key × V)} (ok : HOk P w H h) (e : Rd H a (.dK kvs)) : kvs.length ≤ sizeLine ∧ (a == sysModules) = false ∧ ∃ vs, KV kvs vs ∧ h.DictOf (mixKind P w) a vs :=
  show ObjOk P w H h a (.dK kvs) from rd_of ok e
theorem dk_of {kvs : List (Key × V)} (ok : HOk P w H h) (e : H a = some (.dK kvs)) : kvs.length ≤ sizeLine ∧ (a == sysModules) = false ∧ ∃ vs, KV kvs vs ∧ h.DictOf (mixKind P w) a vs := dk_rd ok (.inl e)
/-- a tracked tuple of ints and texts is a key -/
theorem key_of {ks : List Key} (ok : HOk P w H h) (e : H a = some (.tup (ks.map kV))) : (tupleKind (mixKind P w)).is h ks a := by
  obtain ⟨_, its, r, o, h1, h2, n, h3⟩ := (show ObjOk P w H h a (.tup (ks.map kV)) from ok a _ e)
  exact ⟨o, its.toArray, n, h1, h2, h3, by simpa using items_are r⟩
theorem dt_rd {kvs : List (List Key × V)} (ok : HOk P w H h) (e : Rd H a (.dT kvs)) : kvs.length ≤ sizeLine ∧ (a == sysModules) = false ∧
    ∃ xs, KT H kvs xs ∧ h.DictOfH (tupleKind (mixKind P w)) a xs := by
  obtain ⟨z, y, xs, r, o, es, ep, h1, h2, h3, h4, h5⟩ := (show ObjOk P w H h a (.dT kvs) from rd_of ok e)
  refine ⟨z, y, xs, r, o, es, ep, h1, h2, h3, h4, fun x hx => ?_, h5⟩
  have all : ∀ {l : List (List Key × V)} {m : List (List Key × Addr × Value)}, KT H l m → ∀ x ∈ m, (tupleKind (mixKind P w)).is h x.1 x.2.1 := by
    intro l m q
    induction q with
    | nil => intro x hx; exact nomatch hx
    | @cons p q ps qs hq t ih =>
      intro x hx
      rcases List.mem_cons.mp hx with e | hx
      · subst e
        exact key_of ok (by rw [← hq.1]; exact hq.2.1)
      · exact ih x hx
  exact all r x hx
theorem dt_of {kvs : List (List Key × V)} (ok : HOk P w H h) (e : H a = some (.dT kvs)) : kvs.length ≤ sizeLine ∧ (a == sysModules) = false ∧
    ∃ xs, KT H kvs xs ∧ h.DictOfH (tupleKind (mixKind P w)) a xs := dt_rd ok (.inl e)
end

/-- what the dict at a holds at the key y -/
def DGet (H : Hp) (a : Addr) (y : V) (r : Option V) : Prop :=
  (∃ kvs k, Rd H a (.dK kvs) ∧ y = kV k ∧ r = valV kvs k) ∨ ∃ kvs k b, Rd H a (.dT kvs) ∧ y = .ref b ∧ H b = some (.tup (k.map kV)) ∧ r = valV kvs k
/-- the heap behind a[y] = v -/
def DPut (H : Hp) (a : Addr) (y v : V) (H' : Hp) : Prop :=
  (∃ kvs k, H a = some (.dK kvs) ∧ y = kV k ∧ kvs.length < sizeLine ∧ H' = upd H a (.dK (putK kvs k v))) ∨
  ∃ kvs k b, H a = some (.dT kvs) ∧ y = .ref b ∧ H b = some (.tup (k.map kV)) ∧ kvs.length < sizeLine ∧ H' = upd H a (.dT (putK kvs k v))
theorem DGet.k {H : Hp} {a : Addr} {kvs : List (Key × V)} {k : Key} (e : H a = some (.dK kvs)) : DGet H a (kV k) (valV kvs k) := .inl ⟨kvs, k, .inl e, rfl, rfl⟩
theorem DGet.t {H : Hp} {a b : Addr} {kvs : List (List Key × V)} {k : List Key} (e : H a = some (.dT kvs)) (eb : H b = some (.tup (k.map kV))) : DGet H a (.ref b) (valV kvs k) := .inr ⟨kvs, k, b, .inl e, rfl, eb, rfl⟩
theorem DPut.k {H : Hp} {a : Addr} {kvs : List (Key × V)} {k : Key} {v : V} (e : H a = some (.dK kvs)) (hl : kvs.length < sizeLine) : DPut H a (kV k) v (upd H a (.dK (putK kvs k v))) := .inl ⟨kvs, k, e, rfl, hl, rfl⟩
theorem DPut.t {H : Hp} {a b : Addr} {kvs : List (List Key × V)} {k : List Key} {v : V} (e : H a = some (.dT kvs)) (eb : H b = some (.tup (k.map kV))) (hl : kvs.length < sizeLine) :
    DPut H a (.ref b) v (upd H a (.dT (putK kvs k v))) := .inr ⟨kvs, k, b, e, rfl, eb, hl, rfl⟩


section
variable {X : Cx} {pins : List (Addr × Obj)} {σ : St} {H : Hp} {s : Shared} {a : Addr} {y v : V} {u r : Value} {o : Option V} {A : Around} {E : Value → Shared → Prop}

theorem Inv.big (I : Inv X pins σ H s) : sysModules < s.heap.objs.size := by
  have h : mainGlobals < s.heap.objs.size := (I.mod.glob.keeps I.bk).lt
  exact Nat.lt_trans (by decide) h

/-- d[y], there -/
theorem d_getItem {Q : Value → Shared → Prop} (hu : A.units + 1 < cLine) (I : Inv X pins σ H s) (g : DGet H a y (some v)) (ry : RelV y u) (h : ∀ w' s', Inv X pins σ H s' → RelV v w' → Q w' s') :
    wpAny (model X.prog X.w) A (getItem (.ref a) u) Q E s := by
  rcases g with ⟨kvs, k, e, ey, l⟩ | ⟨kvs, k, b, e, ey, eb, l⟩
  · subst ey
    obtain ⟨z, hd, vs, rel, dd⟩ := dk_rd I.hok e
    obtain ⟨w', hw, rw'⟩ := RelO.some_of (v := v) (o := valueAt vs k) (by rw [l]; exact rel.val k)
    exact wpAny_getItem_of (kV_is ry) dd.mapOf hw (h w' _ (I.tok _) rw')
  · subst ey
    cases (show u = Value.ref b from ry)
    obtain ⟨z, hd, xs, rel, dd⟩ := dt_rd I.hok e
    obtain ⟨w', hw, rw'⟩ := RelO.some_of (v := v) (o := (atKey xs k).map (·.2)) (by rw [l]; exact rel.val k)
    obtain ⟨p, hp, hp2⟩ := Option.map_eq_some_iff.mp hw
    refine wpAny_getItem_heap (tupleKind_room_in1 hu) (key_of I.hok eb) dd hp ?_
    rw [hp2]
    exact h w' _ (I.tok _) rw'
/-- y in d -/
theorem d_in {Q : Value → Shared → Prop} (hu : A.units + 1 < cLine) (I : Inv X pins σ H s) (g : DGet H a y o) (ry : RelV y u) (h : ∀ s', Inv X pins σ H s' → Q (.bool o.isSome) s') :
    wpAny (model X.prog X.w) A (compareOp .In u (.ref a)) Q E s := by
  rcases g with ⟨kvs, k, e, ey, l⟩ | ⟨kvs, k, b, e, ey, eb, l⟩
  · subst ey
    obtain ⟨z, hd, vs, rel, dd⟩ := dk_rd I.hok e
    refine wpAny_in_of (kV_is ry) hd dd.mapOf ?_
    rw [← (rel.val k).isSome_eq, ← l]
    exact h _ (I.tok _)
  · subst ey
    cases (show u = Value.ref b from ry)
    obtain ⟨z, hd, xs, rel, dd⟩ := dt_rd I.hok e
    refine wpAny_in_heap (tupleKind_room_in1 hu) (key_of I.hok eb) hd dd ?_
    have q := (rel.val k).isSome_eq
    rw [Option.isSome_map] at q
    rw [← q, ← l]
    exact h _ (I.tok _)
theorem d_notIn {Q : Value → Shared → Prop} (hu : A.units + 1 < cLine) (I : Inv X pins σ H s) (g : DGet H a y o) (ry : RelV y u) (h : ∀ s', Inv X pins σ H s' → Q (.bool (!o.isSome)) s') :
    wpAny (model X.prog X.w) A (compareOp .NotIn u (.ref a)) Q E s := by
  rcases g with ⟨kvs, k, e, ey, l⟩ | ⟨kvs, k, b, e, ey, eb, l⟩
  · subst ey
    obtain ⟨z, hd, vs, rel, dd⟩ := dk_rd I.hok e
    refine wpAny_notIn_of (kV_is ry) hd dd.mapOf ?_
    rw [← (rel.val k).isSome_eq, ← l]
    exact h _ (I.tok _)
  · subst ey
    cases (show u = Value.ref b from ry)
    obtain ⟨z, hd, xs, rel, dd⟩ := dt_rd I.hok e
    refine wpAny_notIn_heap (tupleKind_room_in1 hu) (key_of I.hok eb) hd dd ?_
    have q := (rel.val k).isSome_eq
    rw [Option.isSome_map] at q
    rw [← q, ← l]
    exact h _ (I.tok _)
/-- a dict's object is replaced -/
theorem d_write {h' : Heap} {t' : Nat} {ob : HO} (I : Inv X pins σ H s) (mu : Mut (H a)) (hs : Heap.SameBut a s.heap h') (he : ∃ q, h'.get? a = some q) (new : ObjOk X.prog X.w (upd H a ob) h' a ob) :
    Inv X pins σ (upd H a ob) { s with heap := h', toks := t' } :=
  I.write (x := a) (e := a) mu (.inl rfl) (fun b q hb z => (hs.2 b hb).trans z) he new
theorem dk_new {P : Program} {w : World} {H' : Hp} {h' : Heap} {kvs : List (Key × V)} {vs : List (Key × Value)} (z : kvs.length ≤ sizeLine) (hd : (a == sysModules) = false) (rel : KV kvs vs) (dd : h'.DictOf (mixKind P w) a vs) :
    ObjOk P w H' h' a (.dK kvs) := ⟨z, hd, vs, rel, dd⟩
/-- d[y] = v -/
theorem d_setItem {H' : Hp} {Q : Unit → Shared → Prop} (hu : A.units + 1 < cLine) (I : Inv X pins σ H s) (g : DPut H a y v H') (ry : RelV y u) (rv : RelV v r) (h : ∀ s', Inv X pins σ H' s' → Q () s') :
    wpAny (model X.prog X.w) A (setItem (.ref a) u r) Q E s := by
  rcases g with ⟨kvs, k, e, ey, l, eH⟩ | ⟨kvs, k, b, e, ey, eb, l, eH⟩
  · subst ey eH
    obtain ⟨z, hd, vs, rel, dd⟩ := dk_of I.hok e
    have hz : vs.length ≤ sizeLine := by rw [← rel.length]; exact z
    have hl : (putK kvs k v).length ≤ sizeLine := by have := length_putK kvs k v; omega
    refine wpAny_setItem_pairs (hsz := hz) (kV_is ry) dd fun h' dd' hs => h _ ?_
    have he : ∃ q, h'.get? a = some q := let ⟨q, _, _, hq, _⟩ := dd'; ⟨q, hq⟩
    exact d_write I (by rw [e]; exact True.intro) hs he (dk_new hl hd (rel.put k rv) dd')
  · subst ey eH
    cases (show u = Value.ref b from ry)
    obtain ⟨z, hd, xs, rel, dd⟩ := dt_of I.hok e
    have hz : xs.length ≤ sizeLine := by rw [← Paired.length rel]; exact z
    have hl : (putK kvs k v).length ≤ sizeLine := by have := length_putK kvs k v; omega
    refine wpAny_setItem_heap (hsz := hz) (tupleKind_room_in1 hu) (key_of I.hok eb) dd fun h' dd' hs => h _ ?_
    obtain ⟨q, es, ep, hq, h2, h3, h4, _, h5⟩ := dd'
    refine d_write I (by rw [e]; exact True.intro) hs ⟨q, hq⟩ ⟨hl, hd, _, (rel.put k eb rv).keeps fun c ys ec => ?_, q, es, ep, hq, h2, h3, h4, h5⟩
    rw [upd_ne (ne_of ec e (fun z => nomatch z))]
    exact ec
end

section
variable {X : Cx} {pins : List (Addr × Obj)} {σ : St} {H : Hp} {s : Shared} {a : Addr} {kvs : List (Key × V)} {k : Key} {u : Value} {A : Around} {E : Value → Shared → Prop}
/-- del d[k] -/
theorem d_delItem {Q : Unit → Shared → Prop} (I : Inv X pins σ H s) (e : H a = some (.dK kvs)) (ry : RelV (kV k) u) (l : (valV kvs k).isSome = true) (h : ∀ s', Inv X pins σ (upd H a (.dK (dropK kvs k))) s' → Q () s') :
    wpAny (model X.prog X.w) A (delItem (.ref a) u) Q E s := by
  obtain ⟨z, hd, vs, rel, dd⟩ := dk_of I.hok e
  refine wpAny_delItem_slot dd.typeIs (by decide) PySem.F.slot_dict_delitem
    (call_meetsIn PySem.F.slot_dict_delitem dd.typeIs PySem.F.entry_dict_delitem (PySem.F.args_dict_delitem_2 _ _) (meets_dict_delitem_pairs (mixKind X.prog X.w) a (kV_is ry)) ⟨vs, dd, by rw [← rel.length]; exact z, by rw [← (rel.val k).isSome_eq]; exact l, fun h' dd' hs => h _ ?_⟩)
  have he : ∃ q, h'.get? a = some q := let ⟨q, _, _, hq, _⟩ := dd'; ⟨q, hq⟩
  exact d_write I (by rw [e]; exact True.intro) hs he (dk_new (Nat.le_trans (dropK_le kvs k) z) hd (rel.drop k) dd')
/-- d.pop(k[, x]), there -/
theorem d_pop {v : V} {more : List Value} {Q : Value → Shared → Prop} (I : Inv X pins σ H s) (e : H a = some (.dK kvs)) (ry : RelV (kV k) u) (l : valV kvs k = some v) (hm : more = [] ∨ ∃ x, more = [x])
    (h : ∀ w' s', Inv X pins σ (upd H a (.dK (dropK kvs k))) s' → RelV v w' → Q w' s') : wpAny (model X.prog X.w) A (call (.builtin "dict.pop") (.ref a :: u :: more)) Q E s := by
  obtain ⟨z, hd, vs, rel, dd⟩ := dk_of I.hok e
  obtain ⟨w', hw, rw'⟩ := RelO.some_of (v := v) (o := valueAt vs k) (by rw [← l]; exact rel.val k)
  have hp : (keyPart u).isSome = true := by
    cases k with
    | inl i => obtain ⟨t, q⟩ := (show ∃ t, u = Value.int i t from ry); subst q; rfl
    | inr x => obtain ⟨t, q⟩ := (show ∃ t, u = Value.str x t from ry); subst q; rfl
  have ha : argsOk "dict.pop" ⟨.ref a :: u :: more, []⟩ := by
    rcases hm with q | ⟨x, q⟩
    · subst q; exact PySem.F.args_dict_pop_2 _ _
    · subst q; exact PySem.F.args_dict_pop_3 _ _ _
  refine call_meetsIn PySem.F.slot_dict_pop dd.typeIs PySem.F.entry_dict_pop ha (meets_dict_pop_there (mixKind X.prog X.w) a (kV_is ry) more hm hp)
    ⟨vs, w', dd, by rw [← rel.length]; exact z, hw, fun h' dd' hs => h w' _ ?_ rw'⟩
  have he : ∃ q, h'.get? a = some q := let ⟨q, _, _, hq, _⟩ := dd'; ⟨q, hq⟩
  exact d_write I (by rw [e]; exact True.intro) hs he (dk_new (Nat.le_trans (dropK_le kvs k) z) hd (rel.drop k) dd')
/-- d.pop(k, x), not there -/
theorem d_popD {r : Value} {Q : Value → Shared → Prop} (I : Inv X pins σ H s) (e : H a = some (.dK kvs)) (ry : RelV (kV k) u) (l : valV kvs k = none) (h : ∀ s', Inv X pins σ H s' → Q r s') :
    wpAny (model X.prog X.w) A (call (.builtin "dict.pop") [.ref a, u, r]) Q E s := by
  obtain ⟨z, hd, vs, rel, dd⟩ := dk_of I.hok e
  have hn : valueAt vs k = none := RelO.none_of (by rw [← l]; exact rel.val k)
  have hp : (keyPart u).isSome = true := by
    cases k with
    | inl i => obtain ⟨t, q⟩ := (show ∃ t, u = Value.int i t from ry); subst q; rfl
    | inr x => obtain ⟨t, q⟩ := (show ∃ t, u = Value.str x t from ry); subst q; rfl
  exact call_meetsIn PySem.F.slot_dict_pop dd.typeIs PySem.F.entry_dict_pop (PySem.F.args_dict_pop_3 _ _ _) (meets_dict_pop_default (mixKind X.prog X.w) a (kV_is ry) hd hp r) ⟨vs, dd, hn, h _ (I.tok _)⟩
/-- d.clear() -/
theorem d_clear {Q : Value → Shared → Prop} (I : Inv X pins σ H s) (e : H a = some (.dK kvs)) (h : ∀ s', Inv X pins σ (upd H a (.dK [])) s' → Q .none s') : wpAny (model X.prog X.w) A (call (.builtin "dict.clear") [.ref a]) Q E s := by
  obtain ⟨z, hd, vs, rel, dd⟩ := dk_of I.hok e
  refine call_meetsIn PySem.F.slot_dict_clear dd.typeIs PySem.F.entry_dict_clear (PySem.F.args_dict_clear_1 _) (meets_dict_clear (mixKind X.prog X.w) a) ⟨vs, dd, by rw [← rel.length]; exact z, fun h' dd' hs => h _ ?_⟩
  have he : ∃ q, h'.get? a = some q := let ⟨q, _, _, hq, _⟩ := dd'; ⟨q, hq⟩
  exact d_write (t' := s.toks) I (by rw [e]; exact True.intro) hs he (dk_new (Nat.zero_le _) hd .nil dd')
/-- len(d) -/
theorem d_len {Q : Value → Shared → Prop} (I : Inv X pins σ H s) (e : Rd H a (.dK kvs)) (h : ∀ t s', Inv X pins σ H s' → Q (.int kvs.length t) s') : wpAny (model X.prog X.w) A (call (.builtin "len") [.ref a]) Q E s := by
  obtain ⟨z, hd, vs, rel, dd⟩ := dk_rd I.hok e
  refine call_len_dict hd dd (by rw [← rel.length]; rw [sizeLine_eq] at z; omega) ?_
  rw [← rel.length]
  exact h _ _ (I.tok _)
/-- if d -/
theorem d_truth {Q : Bool → Shared → Prop} (I : Inv X pins σ H s) (e : Rd H a (.dK kvs)) (h : ∀ s', Inv X pins σ H s' → Q (!kvs.isEmpty) s') : wpAny (model X.prog X.w) A (truthy (.ref a)) Q E s := by
  obtain ⟨z, hd, vs, rel, dd⟩ := dk_rd I.hok e
  refine wpAny_truthy_dict hd dd (by rw [← rel.length]; rw [sizeLine_eq] at z; omega) ?_
  have q : kvs.isEmpty = vs.isEmpty := by cases rel <;> rfl
  rw [← q]
  exact h _ (I.tok _)
end


/-! ### readings and rules -/
/-- the element of a subscription, not a slice -/
def NoSl (i : Expr) : Prop := ∀ ov iv, subscripted i false ov iv = operate [ov, iv] (getItem ov iv)
theorem subD_of {prog : Program} {w : World} {A : Around} {E : Value → Shared → Prop} {s : Shared} {env : Env} {value slice : Expr} {pos : Pos} {T id : String} {Q : Value → Shared → Prop}
    (hl : typeLookup (.type T) "__getitem__" = pure (some (.builtin id))) (hs : NoSl slice)
    (h : wpAny (model prog w) A (eval value env) (fun o s₁ => wpAny (model prog w) A (eval slice env) (fun i s₂ => s₂.TypeIs o T ∧ wpAny (model prog w) A (getItem o i) Q E s₂) E s₁) E s) :
    wpAny (model prog w) A (eval (.Subscript value slice pos) env) Q E s := by
  refine Subscript_ (wpAny_mono h (fun o s₁ h₁ => wpAny_mono h₁ (fun i s₂ h₂ => ?_) fun _ _ x => x) fun _ _ x => x)
  obtain ⟨hT, h₂⟩ := h₂
  unfold subscriptTail
  refine wpAny_bind ?_
  rw [getitemInPython_of_ne hT.not_modules]
  refine wpAny_bind (wpAny_specialOf hT hl ?_)
  have fin : wpAny (model prog w) A (subscripted slice false o i) (fun r s₃ => wpAny (model prog w) A (letTemporaryGo value o r >>= fun _ => pure r) Q E s₃) E s₂ := by
    rw [hs o i]
    exact wpAny_operating (wpAny_mono h₂ (fun r s₃ h₃ => wpAny_bind (wpAny_letTemporaryGo (wpAny_pure h₃))) fun _ _ x => x)
  first
    | exact wpAny_pure (wpAny_bind fin)
    | exact wpAny_bind (wpAny_pure (wpAny_bind fin))
    | exact wpAny_bind fin

theorem dict_typeIs {X : Cx} {pins : List (Addr × Obj)} {σ : St} {H : Hp} {s : Shared} {a : Addr} {y : V} {o : Option V} (I : Inv X pins σ H s) (g : DGet H a y o) : s.TypeIs (.ref a) "dict" := by
  rcases g with ⟨kvs, k, e, _, _⟩ | ⟨kvs, k, b, e, _, _, _⟩
  · obtain ⟨_, _, vs, _, dd⟩ := dk_rd I.hok e
    exact dd.typeIs
  · obtain ⟨_, _, xs, _, dd⟩ := dt_rd I.hok e
    exact dd.typeIs
theorem dict_noDict {X : Cx} {pins : List (Addr × Obj)} {σ : St} {H : Hp} {s : Shared} {a : Addr} {y : V} {o : Option V} (I : Inv X pins σ H s) (g : DGet H a y o) :
    ∀ b, Value.ref a = .ref b → ∃ ob, s.heap.get? b = some ob ∧ ob.dict = none := fun b q => by
  cases q
  rcases g with ⟨kvs, k, e, _, _⟩ | ⟨kvs, k, b, e, _, _, _⟩
  · obtain ⟨_, _, vs, _, ob, _, _, h1, h2, _⟩ := dk_rd I.hok e
    exact ⟨ob, h1, h2.2.1⟩
  · obtain ⟨_, _, xs, _, ob, _, _, h1, h2, _⟩ := dt_rd I.hok e
    exact ⟨ob, h1, h2.2.1⟩

/-- d[y] -/
def tDGet (td ty : TE) : TE := fun σ H Q => td σ H fun x H1 => ty σ H1 fun y H2 => ∃ a v, x = .ref a ∧ DGet H2 a y (some v) ∧ Q v H2
/-- y in d, y not in d -/
def tDIn (ty td : TE) : TE := fun σ H Q => ty σ H fun y H1 => td σ H1 fun x H2 => ∃ a o, x = .ref a ∧ DGet H2 a y o ∧ Q (.bl o.isSome) H2
def tDNotIn (ty td : TE) : TE := fun σ H Q => ty σ H fun y H1 => td σ H1 fun x H2 => ∃ a o, x = .ref a ∧ DGet H2 a y o ∧ Q (.bl (!o.isSome)) H2
/-- d[y] = v -/
def sDPut (td ty tv : TE) : TS := fun D σ H => tv σ H fun v H1 => td σ H1 fun x H2 => ty σ H2 fun y H3 => ∃ a H4, x = .ref a ∧ DPut H3 a y v H4 ∧ D.nx σ H4
/-- d[y] op= v -/
def sDAug (td ty tv : TE) (rd : V → V → Hp → VK → Prop) : TS := fun D σ H => td σ H fun x H1 => ty σ H1 fun y H2 => ∃ a v, x = .ref a ∧ DGet H2 a y (some v) ∧
  tv σ H2 fun y2 H3 => rd v y2 H3 fun z H4 => ∃ H5, DPut H4 a y z H5 ∧ D.nx σ H5
/-- del d[y] -/
def sDDel (td ty : TE) : TS := fun D σ H => td σ H fun x H1 => ty σ H1 fun y H2 => ∃ a kvs k, x = .ref a ∧ H2 a = some (.dK kvs) ∧ y = kV k ∧ (valV kvs k).isSome = true ∧ D.nx σ (upd H2 a (.dK (dropK kvs k)))

section
variable {X : Cx} {o i e value : Expr} {pos pos' tpos : Pos} {td ty tv : TE}
theorem pe_dget (hu : X.A.units + 1 < cLine) (ho : PE X o td) (hi : PE X i ty) (hs : NoSl i) : PE X (.Subscript o i pos) (tDGet td ty) := by
  intro pins s σ H Q I h
  refine subD_of PySem.F.slot_dict_getitem.lookup hs (thn (ho pins s σ H _ I h) fun u s1 ⟨x, H1, I1, rx, q1⟩ => thn (hi pins s1 σ H1 _ I1 q1) fun iv s2 ⟨y, H2, I2, ry, a, v, ex, g, q2⟩ => ?_)
  subst ex
  obtain rfl : u = Value.ref a := rx
  exact ⟨dict_typeIs I2 g, d_getItem hu I2 g ry fun w' s3 I3 rw' => ⟨v, H2, I3, rw', q2⟩⟩
theorem pc_din (hu : X.A.units + 1 < cLine) (hi : PE X i ty) (ho : PE X o td) : PC X .In i o (tDIn ty td) := by
  intro pins s σ H Q I h
  refine thn (hi pins s σ H _ I h) fun iv s1 ⟨y, H1, I1, ry, q1⟩ => thn (ho pins s1 σ H1 _ I1 q1) fun u s2 ⟨x, H2, I2, rx, a, ov, ex, g, q2⟩ => ?_
  subst ex
  obtain rfl : u = Value.ref a := rx
  exact d_in hu I2 g ry fun s3 I3 => ⟨.bl ov.isSome, H2, I3, rfl, q2⟩
theorem pc_dnotin (hu : X.A.units + 1 < cLine) (hi : PE X i ty) (ho : PE X o td) : PC X .NotIn i o (tDNotIn ty td) := by
  intro pins s σ H Q I h
  refine thn (hi pins s σ H _ I h) fun iv s1 ⟨y, H1, I1, ry, q1⟩ => thn (ho pins s1 σ H1 _ I1 q1) fun u s2 ⟨x, H2, I2, rx, a, ov, ex, g, q2⟩ => ?_
  subst ex
  obtain rfl : u = Value.ref a := rx
  exact d_notIn hu I2 g ry fun s3 I3 => ⟨.bl (!ov.isSome), H2, I3, rfl, q2⟩
theorem ps_dput (hu : X.A.units + 1 < cLine) (ho : PE X o td) (hi : PE X i ty) (hv : PE X value tv) (hs : swapsWith value (some (.Subscript o i pos')) pos.line X.env = pure false) :
    PS X (.Assign [.Subscript o i pos'] value pos) (sDPut td ty tv) := by
  intro pins s σ H D I h
  refine wpAny_Assign_Subscript (thn (hv pins s σ H _ I h) fun r s1 ⟨v, H1, I1, rv, q1⟩ => thn (ho pins s1 σ H1 _ I1 q1) fun u s2 ⟨x, H2, I2, rx, q2⟩ => thn (hi pins s2 σ H2 _ I2 q2) fun iv s3 ⟨y, H3, I3, ry, a, H4, ex, g, q3⟩ => ?_) hs
  subst ex
  obtain rfl : u = Value.ref a := rx
  exact d_setItem hu I3 g ry rv fun s4 I4 => ⟨σ, H4, I4, q3⟩
theorem ps_daug {op : Operator} {rd : V → V → Hp → VK → Prop} (hu : X.A.units + 1 < cLine) (ho : PE X o td) (hi : PE X i ty) (hv : PE X value tv) (hop : InOp X op rd)
    (ha : ∀ ov iv new, augStore i ov iv new = (do holding [new, ov, iv] (setItem ov iv new); release [new, ov, iv] []; pure .next)) : PS X (.AugAssign (.Subscript o i tpos) op value pos) (sDAug td ty tv rd) := by
  intro pins s σ H D I h
  refine wpAny_AugAssign_SubscriptAny (thn (ho pins s σ H _ I h) fun u s1 ⟨x, H1, I1, rx, q1⟩ => thn (hi pins s1 σ H1 _ I1 q1) fun iv s2 ⟨y, H2, I2, ry, a, v, ex, g, q2⟩ => ?_) ha
  subst ex
  obtain rfl : u = Value.ref a := rx
  refine d_getItem hu I2 g ry fun w' s3 I3 rw' => thn (hv pins s3 σ H2 _ I3 q2) fun w2 s4 ⟨y2, H3, I4, ry2, q3⟩ => thn (hop pins s4 σ H3 v y2 w' w2 _ I4 rw' ry2 q3) fun w3 s5 ⟨z, H4, I5, rz, H5, g5, q4⟩ => ?_
  exact d_setItem hu I5 g5 ry rz fun s6 I6 => ⟨σ, H5, I6, q4⟩
theorem ps_ddel (ho : PE X o td) (hi : PE X i ty) : PS X (.Delete [.Subscript o i tpos] pos) (sDDel td ty) := by
  intro pins s σ H D I h
  refine wpAny_Delete (wpAny_deleteEach_cons (wpAny_delete_Subscript (thn (ho pins s σ H _ I h) fun u s1 ⟨x, H1, I1, rx, q1⟩ => thn (hi pins s1 σ H1 _ I1 q1) fun iv s2 ⟨y, H2, I2, ry, a, kvs, k, ex, e, ey, l, q2⟩ => ?_)))
  subst ex ey
  obtain rfl : u = Value.ref a := rx
  exact d_delItem I2 e ry l fun s3 I3 => wpAny_deleteEach_nil ⟨σ, _, I3, q2⟩
end


/-! ### displays -/
theorem dk_empty {P : Program} {w : World} {H : Hp} (h : Heap) (hb : sysModules < h.objs.size) : ObjOk P w H (h.push { cls := .type "dict", data := .dict #[] }) h.objs.size (.dK []) :=
  ⟨Nat.zero_le _, beq_eq_false_iff_ne.mpr (Ne.symm (Nat.ne_of_lt hb)), [], .nil, Heap.DictOf.new h⟩
theorem dt_empty {P : Program} {w : World} {H : Hp} (h : Heap) (hb : sysModules < h.objs.size) : ObjOk P w H (h.push { cls := .type "dict", data := .dict #[] }) h.objs.size (.dT []) :=
  ⟨Nat.zero_le _, beq_eq_false_iff_ne.mpr (Ne.symm (Nat.ne_of_lt hb)), [], .nil, _, #[], 0, Heap.get?_push_size _ rfl, ⟨rfl, rfl, rfl⟩, rfl, rfl, List.nodup_nil⟩
/-- {}, to be a dict of the kind that is wanted -/
def tDNewK : TE := fun _ H Q => ∀ p, H p = none → Q (.ref p) (upd H p (.dK []))
def tDNewT : TE := fun _ H Q => ∀ p, H p = none → Q (.ref p) (upd H p (.dT []))
section
variable {X : Cx} {pos : Pos}
theorem pe_dnewK : PE X (.Dict [] [] pos) tDNewK := fun pins s σ H Q I h =>
  wpAny_Dict_empty ⟨.ref s.heap.objs.size, _, I.laid (a := s.heap.objs.size) (o := .dK []) (t' := s.toks) (fun _ _ q => Heap.get?_push_of_some _ q) (Nat.le_refl _) (dk_empty s.heap I.big), rfl, h _ (I.hok.fresh (Nat.le_refl _))⟩
theorem pe_dnewT : PE X (.Dict [] [] pos) tDNewT := fun pins s σ H Q I h =>
  wpAny_Dict_empty ⟨.ref s.heap.objs.size, _, I.laid (a := s.heap.objs.size) (o := .dT []) (t' := s.toks) (fun _ _ q => Heap.get?_push_of_some _ q) (Nat.le_refl _) (dt_empty s.heap I.big), rfl, h _ (I.hok.fresh (Nat.le_refl _))⟩
end

/-- the pairs of a display, from the left -/
def tPairs : List (TE × TE) → St → Hp → (List (V × V) → Hp → Prop) → Prop
  | [], _, H, Q => Q [] H
  | (tk, tv) :: r, σ, H, Q => tk σ H fun x H1 => tv σ H1 fun y H2 => tPairs r σ H2 fun ps H3 => Q ((x, y) :: ps) H3
abbrev VV : List (V × V) → List (Value × Value) → Prop := Paired fun p q => RelV p.1 q.1 ∧ RelV p.2 q.2
def PPs (X : Cx) (pos : Pos) (keys : List (Option Expr)) (values : List Expr) (trs : List (TE × TE)) : Prop :=
  ∀ (pins : List (Addr × Obj)) (s : Shared) (σ : St) (H : Hp) (Q : List (V × V) → Hp → Prop), Inv X pins σ H s → tPairs trs σ H Q →
    wpAny (model X.prog X.w) X.A (evalPairs (pairTrees keys values X.env pos)) (fun vs s' => ∃ ps H', Inv X pins σ H' s' ∧ VV ps vs ∧ Q ps H') X.xe s
theorem pps_nil {X : Cx} {pos : Pos} : PPs X pos [] [] [] := fun pins s σ H Q I h => pairTrees_nil_walk ⟨[], H, I, .nil, h⟩
theorem pps_cons {X : Cx} {pos : Pos} {k v : Expr} {ks : List (Option Expr)} {vs : List Expr} {tk tv : TE} {trs : List (TE × TE)} (hk : PE X k tk) (hv : PE X v tv) (hr : PPs X pos ks vs trs) :
    PPs X pos (some k :: ks) (v :: vs) ((tk, tv) :: trs) := fun pins s σ H Q I h =>
  pairTrees_cons_walk (thn (hk pins s σ H _ I h) fun u s1 ⟨x, H1, I1, rx, q1⟩ => thn (hv pins s1 σ H1 _ I1 q1) fun w2 s2 ⟨y, H2, I2, ry, q2⟩ =>
    thn (hr pins s2 σ H2 _ I2 q2) fun ws s3 ⟨ps, H3, I3, rel, q3⟩ => ⟨(x, y) :: ps, H3, I3, .cons ⟨rx, ry⟩ rel, q3⟩)

def mergeK (kvs more : List (Key × V)) : List (Key × V) := more.foldl (fun acc kv => putK acc kv.1 kv.2) kvs
theorem KV.merge : ∀ {more : List (Key × V)} {rs : List (Key × Value)} {kvs : List (Key × V)} {vs : List (Key × Value)}, KV more rs → KV kvs vs → KV (mergeK kvs more) (merged vs rs) := by
  intro more rs kvs vs r
  unfold KV at r
  induction r generalizing kvs vs with
  | nil => intro q; exact q
  | @cons p q ps qs h t ih =>
    intro r0
    have e : KV (putK kvs p.1 p.2) (stored vs q.1 q.2) := by
      have := r0.put p.1 h.2
      rw [← h.1]; exact this
    exact ih e
theorem length_mergeK : ∀ (more kvs : List (Key × V)), (mergeK kvs more).length ≤ kvs.length + more.length
  | [], kvs => by show kvs.length ≤ kvs.length + 0; omega
  | p :: r, kvs => by
    have h1 := length_mergeK r (putK kvs p.1 p.2)
    have h2 := length_putK kvs p.1 p.2
    show (mergeK (putK kvs p.1 p.2) r).length ≤ _
    rw [List.length_cons]; omega
theorem carries_of {P : Program} {w : World} : ∀ {kvs : List (Key × V)} {ws : List (Value × Value)}, VV (kvs.map fun kv => (kV kv.1, kv.2)) ws → ∃ rs, Carries (mixKind P w) ws rs ∧ KV kvs rs
  | [], _, r => by rw [List.map_nil] at r; cases r; exact ⟨[], True.intro, .nil⟩
  | p :: kvs, _, r => by
    rw [List.map_cons] at r
    cases r with
    | @cons a b as bs h t =>
      obtain ⟨rs, c, q⟩ := carries_of (P := P) (w := w) t
      obtain ⟨b1, b2⟩ := b
      exact ⟨(p.1, b2) :: rs, ⟨kV_is h.1, rfl, c⟩, .cons ⟨rfl, h.2⟩ q⟩
/-- {k: v, ..} with keys ints and texts; the new dict stands empty while the pairs are made -/
def tDisp (trs : List (TE × TE)) : TE := fun σ H Q => ∀ p, H p = none → tPairs trs σ (upd H p (.dK [])) fun ps H2 => H2 p = some (.dK []) ∧ ∃ kvs : List (Key × V), ps = kvs.map (fun kv => (kV kv.1, kv.2)) ∧ kvs.length ≤ 15 ∧ Q (.ref p) (upd H2 p (.dK (mergeK [] kvs)))
theorem pe_disp {X : Cx} {pos : Pos} {keys : List (Option Expr)} {values : List Expr} {trs : List (TE × TE)} (h : PPs X pos keys values trs) (hall : keys.all (·.isSome) = true) (hl : keys.length = values.length) (h0 : keys ≠ [])
    (h15 : keys.length ≤ 15) : PE X (.Dict keys values pos) (tDisp trs) := by
  intro pins s σ H Q I q
  have hn := I.hok.fresh (Nat.le_refl s.heap.objs.size)
  have I1 := I.laid (a := s.heap.objs.size) (o := .dK []) (h' := s.heap.push { cls := .type "dict", data := .dict #[] }) (t' := s.toks) (fun _ _ q => Heap.get?_push_of_some _ q) (Nat.le_refl _) (dk_empty s.heap I.big)
  refine wpAny_Dict_walk (knd := mixKind X.prog X.w) hall hl h0 h15 (thn (h pins _ σ _ _ I1 (q _ hn)) fun ws s2 ⟨ps, H2, I2, rel, e, kvs, ep, lk, q2⟩ => ?_)
  subst ep
  obtain ⟨rs, c, rk⟩ := carries_of (P := X.prog) (w := X.w) rel
  obtain ⟨z, hd, vs0, r0, dd⟩ := dk_of I2.hok e
  cases r0
  refine ⟨rs, c, dd, fun h' dd' hs => ⟨.ref s.heap.objs.size, _, ?_, rfl, q2⟩⟩
  have hz : (mergeK [] kvs).length ≤ sizeLine := by
    have h1 := length_mergeK kvs []
    rw [List.length_nil] at h1
    rw [sizeLine_eq]; omega
  have he : ∃ q, h'.get? s.heap.objs.size = some q := let ⟨q, _, _, hq, _⟩ := dd'; ⟨q, hq⟩
  exact d_write I2 (by rw [e]; exact True.intro) hs he (dk_new hz hd (rk.merge .nil) dd')


/-! ### methods -/
/-- a method call o.m(e) of a built-in, with one argument: what must be seen of the text -/
structure M1 (X : Cx) (o : Expr) (m : Str) (apos : Pos) (e : Expr) (cpos : Pos) : Prop where
  base : attributeBase o m X.env (eval o X.env) = eval o X.env
  few : ((backTo cpos (starEach [e] X.env)).all (fun x => !x.1) && (backToKw cpos (keywordEach [] X.env)).all (fun x => x.1.isSome)
    && decide (([e] : List Expr).length + ([] : List Keyword).length + (if ([] : List Keyword).isEmpty then 0 else 1) < 30)) = true
  line : (apos.endLine == cpos.line) = true
  trees : backTo cpos (starEach [e] X.env) = [(false, eval e X.env)]
structure M2 (X : Cx) (o : Expr) (m : Str) (apos : Pos) (e f : Expr) (cpos : Pos) : Prop where
  base : attributeBase o m X.env (eval o X.env) = eval o X.env
  few : ((backTo cpos (starEach [e, f] X.env)).all (fun x => !x.1) && (backToKw cpos (keywordEach [] X.env)).all (fun x => x.1.isSome)
    && decide (([e, f] : List Expr).length + ([] : List Keyword).length + (if ([] : List Keyword).isEmpty then 0 else 1) < 30)) = true
  line : (apos.endLine == cpos.line) = true
  trees : backTo cpos (starEach [e, f] X.env) = [(false, eval e X.env), (false, eval f X.env)]

/-- a is a dict, whatever its keys -/
def IsD (H : Hp) (a : Addr) : Prop := (∃ kvs, Rd H a (.dK kvs)) ∨ ∃ kvs, Rd H a (.dT kvs)
theorem isD_at {X : Cx} {pins : List (Addr × Obj)} {σ : St} {H : Hp} {s : Shared} {a : Addr} (I : Inv X pins σ H s) (d : IsD H a) :
    s.TypeIs (.ref a) "dict" ∧ (∀ b, Value.ref a = .ref b → ∃ ob, s.heap.get? b = some ob ∧ ob.dict = none) ∧ (a == sysModules) = false := by
  rcases d with ⟨kvs, e⟩ | ⟨kvs, e⟩
  · obtain ⟨_, hd, vs, _, dd⟩ := dk_rd I.hok e
    refine ⟨dd.typeIs, fun b q => ?_, hd⟩
    cases q
    obtain ⟨ob, _, _, h1, h2, _⟩ := dd
    exact ⟨ob, h1, h2.2.1⟩
  · obtain ⟨_, hd, xs, _, dd⟩ := dt_rd I.hok e
    refine ⟨dd.typeIs, fun b q => ?_, hd⟩
    cases q
    obtain ⟨ob, _, _, h1, h2, _⟩ := dd
    exact ⟨ob, h1, h2.2.1⟩

section
variable {X : Cx} {pins : List (Addr × Obj)} {σ : St} {H : Hp} {s : Shared} {a : Addr} {y d : V} {u r : Value} {o : Option V} {A : Around} {E : Value → Shared → Prop}
/-- d.get(y) -/
theorem d_get1 {Q : Value → Shared → Prop} (hu : A.units + 1 < cLine) (I : Inv X pins σ H s) (g : DGet H a y o) (ry : RelV y u) (h : ∀ w' s', Inv X pins σ H s' → RelV (o.getD .non) w' → Q w' s') :
    wpAny (model X.prog X.w) A (call (.builtin "dict.get") [.ref a, u]) Q E s := by
  rcases g with ⟨kvs, k, e, ey, l⟩ | ⟨kvs, k, b, e, ey, eb, l⟩
  · subst ey
    obtain ⟨z, hd, vs, rel, dd⟩ := dk_rd I.hok e
    refine call_meetsIn PySem.F.slot_dict_get dd.typeIs PySem.F.entry_dict_get (PySem.F.args_dict_get_2 _ _) (meets_dict_get (mixKind X.prog X.w) a (kV_is ry) hd) ⟨_, dd.mapOf, h _ _ (I.tok _) ?_⟩
    rw [l]
    exact (rel.val k).getD rfl
  · subst ey
    cases (show u = Value.ref b from ry)
    obtain ⟨z, hd, xs, rel, dd⟩ := dt_rd I.hok e
    refine call_meetsIn PySem.F.slot_dict_get dd.typeIs PySem.F.entry_dict_get (PySem.F.args_dict_get_2 _ _) (meetsH_dict_get (tupleKind (mixKind X.prog X.w)) a b hd) ⟨tupleKind_room_in1 hu, k, xs, key_of I.hok eb, dd, h _ _ (I.tok _) ?_⟩
    rw [l]
    exact (rel.val k).getD rfl
/-- d.get(y, x) -/
theorem d_get2 {Q : Value → Shared → Prop} (hu : A.units + 1 < cLine) (I : Inv X pins σ H s) (g : DGet H a y o) (ry : RelV y u) (rd : RelV d r) (h : ∀ w' s', Inv X pins σ H s' → RelV (o.getD d) w' → Q w' s') :
    wpAny (model X.prog X.w) A (call (.builtin "dict.get") [.ref a, u, r]) Q E s := by
  rcases g with ⟨kvs, k, e, ey, l⟩ | ⟨kvs, k, b, e, ey, eb, l⟩
  · subst ey
    obtain ⟨z, hd, vs, rel, dd⟩ := dk_rd I.hok e
    refine call_meetsIn PySem.F.slot_dict_get dd.typeIs PySem.F.entry_dict_get (PySem.F.args_dict_get_3 _ _ _) (meets_dict_get_default (mixKind X.prog X.w) a (kV_is ry) hd r) ⟨_, dd.mapOf, h _ _ (I.tok _) ?_⟩
    rw [l]
    exact (rel.val k).getD rd
  · subst ey
    cases (show u = Value.ref b from ry)
    obtain ⟨z, hd, xs, rel, dd⟩ := dt_rd I.hok e
    refine call_meetsIn PySem.F.slot_dict_get dd.typeIs PySem.F.entry_dict_get (PySem.F.args_dict_get_3 _ _ _) (meetsH_dict_get_default (tupleKind (mixKind X.prog X.w)) a b hd r) ⟨tupleKind_room_in1 hu, k, xs, key_of I.hok eb, dd, h _ _ (I.tok _) ?_⟩
    rw [l]
    exact (rel.val k).getD rd
end

def tDGet1 (td ty : TE) : TE := fun σ H Q => td σ H fun x H1 => ∃ a, x = .ref a ∧ IsD H1 a ∧ ty σ H1 fun y H2 => ∃ o, DGet H2 a y o ∧ Q (o.getD .non) H2
def tDGet2 (td ty tx : TE) : TE := fun σ H Q => td σ H fun x H1 => ∃ a, x = .ref a ∧ IsD H1 a ∧ ty σ H1 fun y H2 => tx σ H2 fun z H3 => ∃ o, DGet H3 a y o ∧ Q (o.getD z) H3
/-- d.pop(k): there; d.pop(k, x): there or not -/
def tDPop1 (td ty : TE) : TE := fun σ H Q => td σ H fun x H1 => ∃ a, x = .ref a ∧ IsD H1 a ∧ ty σ H1 fun y H2 => ∃ kvs k v, H2 a = some (.dK kvs) ∧ y = kV k ∧ valV kvs k = some v ∧ Q v (upd H2 a (.dK (dropK kvs k)))
def tDPop2 (td ty tx : TE) : TE := fun σ H Q => td σ H fun x H1 => ∃ a, x = .ref a ∧ IsD H1 a ∧ ty σ H1 fun y H2 => tx σ H2 fun z H3 => ∃ kvs k, H3 a = some (.dK kvs) ∧ y = kV k ∧
  (∀ v, valV kvs k = some v → Q v (upd H3 a (.dK (dropK kvs k)))) ∧ (valV kvs k = none → Q z H3)
section
variable {X : Cx} {o e f : Expr} {apos cpos : Pos} {td ty tx : TE}
theorem pe_dget1 (hu : X.A.units + 1 < cLine) (ho : PE X o td) (he : PE X e ty) (m : M1 X o "get" apos e cpos) : PE X (.Call (.Attribute o "get" apos) [e] [] cpos) (tDGet1 td ty) := by
  intro pins s σ H Q I h
  refine wpAny_Call_method m.base m.few m.line PySem.F.plainAttrs_dict PySem.F.slot_dict_get PySem.F.type_dict_get (thn (ho pins s σ H _ I h) fun u s1 ⟨x, H1, I1, rx, a, ex, d, q1⟩ => ?_)
  subst ex
  obtain rfl : u = Value.ref a := rx
  obtain ⟨t1, t2, _⟩ := isD_at I1 d
  refine ⟨t1, t2, ?_⟩
  rw [m.trees]
  refine Calls.callWith_builtin rfl (Calls.evalArgs_plain (Calls.spliced_cons (thn (he pins s1 σ H1 _ I1 q1) fun iv s2 ⟨y, H2, I2, ry, ov, g, q2⟩ => Calls.spliced_nil ?_)))
  exact d_get1 hu I2 g ry fun w' s3 I3 rw' => ⟨_, H2, I3, rw', q2⟩
theorem pe_dget2 (hu : X.A.units + 1 < cLine) (ho : PE X o td) (he : PE X e ty) (hf : PE X f tx) (m : M2 X o "get" apos e f cpos) : PE X (.Call (.Attribute o "get" apos) [e, f] [] cpos) (tDGet2 td ty tx) := by
  intro pins s σ H Q I h
  refine wpAny_Call_method m.base m.few m.line PySem.F.plainAttrs_dict PySem.F.slot_dict_get PySem.F.type_dict_get (thn (ho pins s σ H _ I h) fun u s1 ⟨x, H1, I1, rx, a, ex, d, q1⟩ => ?_)
  subst ex
  obtain rfl : u = Value.ref a := rx
  obtain ⟨t1, t2, _⟩ := isD_at I1 d
  refine ⟨t1, t2, ?_⟩
  rw [m.trees]
  refine Calls.callWith_builtin rfl (Calls.evalArgs_plain (Calls.spliced_cons (thn (he pins s1 σ H1 _ I1 q1) fun iv s2 ⟨y, H2, I2, ry, q2⟩ =>
    Calls.spliced_cons (thn (hf pins s2 σ H2 _ I2 q2) fun fv s3 ⟨z, H3, I3, rz, ov, g, q3⟩ => Calls.spliced_nil ?_))))
  exact d_get2 hu I3 g ry rz fun w' s4 I4 rw' => ⟨_, H3, I4, rw', q3⟩
theorem pe_dpop1 (ho : PE X o td) (he : PE X e ty) (m : M1 X o "pop" apos e cpos) : PE X (.Call (.Attribute o "pop" apos) [e] [] cpos) (tDPop1 td ty) := by
  intro pins s σ H Q I h
  refine wpAny_Call_method m.base m.few m.line PySem.F.plainAttrs_dict PySem.F.slot_dict_pop PySem.F.type_dict_pop (thn (ho pins s σ H _ I h) fun u s1 ⟨x, H1, I1, rx, a, ex, d, q1⟩ => ?_)
  subst ex
  obtain rfl : u = Value.ref a := rx
  obtain ⟨t1, t2, _⟩ := isD_at I1 d
  refine ⟨t1, t2, ?_⟩
  rw [m.trees]
  refine Calls.callWith_builtin rfl (Calls.evalArgs_plain (Calls.spliced_cons (thn (he pins s1 σ H1 _ I1 q1) fun iv s2 ⟨y, H2, I2, ry, kvs, k, v, ea, ey, l, q2⟩ => Calls.spliced_nil ?_)))
  subst ey
  exact d_pop I2 ea ry l (.inl rfl) fun w' s3 I3 rw' => ⟨v, _, I3, rw', q2⟩
theorem pe_dpop2 (ho : PE X o td) (he : PE X e ty) (hf : PE X f tx) (m : M2 X o "pop" apos e f cpos) : PE X (.Call (.Attribute o "pop" apos) [e, f] [] cpos) (tDPop2 td ty tx) := by
  intro pins s σ H Q I h
  refine wpAny_Call_method m.base m.few m.line PySem.F.plainAttrs_dict PySem.F.slot_dict_pop PySem.F.type_dict_pop (thn (ho pins s σ H _ I h) fun u s1 ⟨x, H1, I1, rx, a, ex, d, q1⟩ => ?_)
  subst ex
  obtain rfl : u = Value.ref a := rx
  obtain ⟨t1, t2, _⟩ := isD_at I1 d
  refine ⟨t1, t2, ?_⟩
  rw [m.trees]
  refine Calls.callWith_builtin rfl (Calls.evalArgs_plain (Calls.spliced_cons (thn (he pins s1 σ H1 _ I1 q1) fun iv s2 ⟨y, H2, I2, ry, q2⟩ =>
    Calls.spliced_cons (thn (hf pins s2 σ H2 _ I2 q2) fun fv s3 ⟨z, H3, I3, rz, kvs, k, ea, ey, q3, q4⟩ => Calls.spliced_nil ?_))))
  subst ey
  cases l : valV kvs k with
  | some v => exact d_pop I3 ea ry l (.inr ⟨fv, rfl⟩) fun w' s4 I4 rw' => ⟨v, _, I4, rw', q3 v l⟩
  | none => exact d_popD I3 ea ry l fun s4 I4 => ⟨z, H3, I4, rz, q4 l⟩
end

/-! ### dict(d): a copy -/
section
variable {X : Cx} {pins : List (Addr × Obj)} {σ : St} {H : Hp} {s : Shared} {a : Addr} {kvs : List (Key × V)} {A : Around} {E : Value → Shared → Prop}
theorem d_copyOf {Q : Value → Shared → Prop} (I : Inv X pins σ H s) (e : Rd H a (.dK kvs)) (h : ∀ p s', H p = none → Inv X pins σ (upd H p (.dK kvs)) s' → Q (.ref p) s') : wpAny (model X.prog X.w) A (call (.type "dict") [.ref a]) Q E s := by
  obtain ⟨z, hd, vs, rel, dd⟩ := dk_rd I.hok e
  refine kt_call_dict hd dd (by rw [← rel.length]; exact z) fun h' dd' hs => ?_
  refine h _ _ (I.hok.fresh (Nat.le_refl _)) (I.laid (a := s.heap.objs.size) (o := .dK kvs) (t' := s.toks) (fun b q hq => ?_) (Nat.le_refl _) (dk_new z (beq_eq_false_iff_ne.mpr (Ne.symm (Nat.ne_of_lt I.big))) rel dd'))
  exact (hs.2 b (Nat.ne_of_lt (Heap.lt_size hq))).trans (Heap.get?_push_of_some _ hq)
end


section
variable {X : Cx} {pins : List (Addr × Obj)} {σ : St} {H : Hp} {s : Shared} {a : Addr} {y : V} {u : Value} {A : Around} {E : Value → Shared → Prop}
/-- d[y], not there: a KeyError -/
theorem d_missing {Q : Value → Shared → Prop} (hu : A.units + 1 < cLine) (hh : A.handled = none) (I : Inv X pins σ H s) (g : DGet H a y none) (ry : RelV y u)
    (h : ∀ h' e t', Heap.NewExc s.heap h' e "KeyError" → E (.ref e) { s with heap := h', toks := t' }) : wpAny (model X.prog X.w) A (getItem (.ref a) u) Q E s := by
  rcases g with ⟨kvs, k, e, ey, l⟩ | ⟨kvs, k, b, e, ey, eb, l⟩
  · subst ey
    obtain ⟨z, hd, vs, rel, dd⟩ := dk_rd I.hok e
    have hn : valueAt vs k = none := RelO.none_of (by rw [l]; exact rel.val k)
    exact wpAny_getItem_missing_of (kV_is ry) hd hh dd.mapOf hn fun h' ex ne => h h' ex _ ne
  · subst ey
    cases (show u = Value.ref b from ry)
    obtain ⟨z, hd, xs, rel, dd⟩ := dt_rd I.hok e
    have hn : (atKey xs k).map (·.2) = none := RelO.none_of (by rw [l]; exact rel.val k)
    exact wpAny_getItem_missing_heap (tupleKind_room_in1 hu) (key_of I.hok eb) hd hh dd (Option.map_eq_none_iff.mp hn) fun h' ex ne => h h' ex _ ne
end
end L2

namespace Att
open PySem PySem.W PySem.Calls PyProof.Rows

/-! ### the script -/
theorem ints_of_wellAll {P : Params} {h : Heap} : ∀ (ns : List Int) (vs : List Value), WellAll P h vs (ns.map WData.int) → IntsAre vs ns := by
  intro ns
  induction ns with
  | nil =>
    intro vs w
    rw [List.map_nil] at w
    cases w
    exact .nil
  | cons n ns ih =>
    intro vs w
    rw [List.map_cons] at w
    cases w with
    | cons a b =>
      cases a
      exact .cons _ _ (ih _ b)

theorem script_of {l : OpenLaw} {n : Nat} (hn : l.most = some n) {P : Params} {h : Heap} {args : List WData} {vals : List Value}
    (hpre : l.row.toRowW.claim.pre args = true) (hwl : WellAll P h vals args) :
    ∃ a vs ns, vals = [Value.ref a] ∧ args = [WData.list (ns.map WData.int)] ∧ h.get? a = some { cls := .type "list", data := .seq vs.toArray } ∧ IntsAre vs ns ∧ ns.length ≤ n := by
  have hsh : WShape.hasAll [] args [.list .int] = true := (pre_splitW hpre).1
  have hc : l.pre.holds [] { args := args } = true := (pre_splitW hpre).2
  obtain ⟨d, r, rfl, h1, h2⟩ := hasAllW_cons hsh
  obtain rfl := hasAllW_nil h2
  obtain ⟨xs, rfl, h3⟩ := hasW_list h1
  obtain ⟨ns, rfl⟩ := items_int h3
  have hlen : ns.length ≤ n := by
    unfold OpenLaw.pre at hc
    have h4 : (WTm.not (.lt (.lit (.int (n : Int))) (.len (.arg 0)))).holds [] { args := [.list (ns.map .int)] } = true := by
      have h4 := (holds_andW hc).1
      rw [hn] at h4
      exact h4
    have h5 := condW_of h4 (w_not (w_lt w_lit (w_len_list (w_arg rfl))))
    rw [List.length_map] at h5
    refine Nat.le_of_not_lt fun q => ?_
    have q' : (n : Int) < ((ns.length : Nat) : Int) := by omega
    first
      | (rw [decide_eq_true q'] at h5; exact absurd h5 (by decide))
      | (simp at h5; omega)
  cases hwl with
  | cons w1 w2 =>
    cases w2
    cases w1 with
    | list ho hall => exact ⟨_, _, ns, rfl, rfl, ho, ints_of_wellAll ns _ hall, hlen⟩

theorem post_true (l : OpenLaw) (args : List WData) : l.row.toRowW.claim.post args (.bool true) args = true :=
  postW_of (r := l.row.toRowW) (X := (true == true))
    (show WShape.has [] (.bool true) .bool = true by first | rfl | decide | simp [WShape.has, WShape.arms, WShape.armsAll])
    (show (WTm.eq .res (.lit (.bool true))).value [] { args := args, res := some (.bool true), after := args } = some (.bool (true == true)) from w_eq_bool (w_res rfl) w_lit) rfl

/-! ### the attachment: holds_open's last premise (the goal 'hc' behind k_head) from a wpAny of the law's body -/
theorem attach {l : OpenLaw} {n : Nat} {q : Program} {loose : List Str} {XP : (Str → Option Value) → Heap → Prop} {YP : World → Heap → Prop} {d : DefRec} {x : Str}
    (hn : l.most = some n) (hdf : d.params.defaults = [])
    (hbind : ∀ pm cd doc v : Value, bindArgs (docDef d.name d.params d.body d.scope pm cd doc) ⟨[v], []⟩ = pure [(x, v)])
    (hx : d.scope.names.lookup x = some .local ∨ d.scope.names.lookup x = some .cell)
    (hk : d.scope.kind = .function) (hco : d.scope.isCoroutine = false) (hgen : d.scope.isGenerator = false)
    (body : ∀ (w : World) (s₀ s₁ s : Shared) (mg mb : Str → Option Value) (fa : Addr) (o : Obj) (pm cd doc : Value) (a : Addr) (vs : List Value) (ns : List Int),
      Ground q loose [] XP w s₀ mg mb s₁.heap → YP w s₁.heap →
      s₁.heap.get? fa = some o → o.data = .func (docDef d.name d.params d.body d.scope pm cd doc) → s₁.heap.CodeRec cd d.name → mg d.name = some (.ref fa) →
      s₁.heap.get? a = some { cls := .type "list", data := .seq vs.toArray } → IntsAre vs ns → ns.length ≤ n →
      s.gens = #[] → s.os = s₁.os →
      Fr s₁.heap s₁.heap.objs.size s.heap (bindL (envOfC d.name d.scope s₁.heap.objs.size fa cd).kindOf [(x, .ref a)] fun _ => none) →
      Cl s₁.heap.objs.size (cellsFrom (s₁.heap.objs.size + 1) d.scope.names []) s.heap (bindC (envOfC d.name d.scope s₁.heap.objs.size fa cd).kindOf [(x, .ref a)] fun _ => none) →
      wpAny (model l.prog w) (callerA.deeper (envOfC d.name d.scope s₁.heap.objs.size fa cd)) (execs d.body (envOfC d.name d.scope s₁.heap.objs.size fa cd))
        (fun f s' => f = .ret (.bool true) ∧ OldK s₁.heap s'.heap ∧ s'.os = s₁.os ∧ AllBare s'.gens) (fun _ _ => False) s) :
    WalkO q loose XP YP l.row.toRowW d [] (fun f vs => PySem.call f vs) := by
  intro w s₀ s₁ mg mb G Y fa o pm cd doc dV kV ho hd hcd hD hmg hg args vals as hpre hlay hrd hwl hlo
  obtain rfl : dV = .none := Dflts.none hD hdf
  obtain rfl : kV = .none := Dflts.noKw hD
  obtain ⟨a, vs, ns, rfl, rfl, hobj, hints, hlen⟩ := script_of hn hpre hwl
  refine enter_call ?_
  refine call_cells_ret (o := o) (by rw [depth_caller]; decide) ho (fd_plain hd) G.T.nolimit hcd (hbind pm cd doc (.ref a)) (fun y hy => ?_) (fun h₁ tk F X => ?_) hco hgen hk
  · obtain rfl : y = (x, Value.ref a) := List.mem_singleton.mp hy
    rcases hx with e | e
    · exact .inl e
    · exact .inr ⟨e, cellsFrom_some _ _ _ (.inl e)⟩
  · refine wpAny_mono (body w s₀ s₁ { s₁ with heap := h₁, toks := tk } mg mb fa o pm cd doc a vs ns G Y ho (fd_plain hd) hcd hmg hobj hints hlen hg rfl F X) (fun f s' hq => ?_) (fun _ _ hq => hq)
    obtain ⟨rfl, h2, h3, h4⟩ := hq
    exact ⟨.inl ⟨.bool true, .bool true, [], rfl, fun _ => rfl, .bool true, post_true l _, fun _ => ⟨List.Pairwise.nil, fun _ hm => (nomatch hm)⟩⟩, h2, h3, h4⟩

/-- the same from a codeAny of the CALL (for a layer whose function contracts speak of calls) -/
theorem attach_call {l : OpenLaw} {n : Nat} {q : Program} {loose : List Str} {XP : (Str → Option Value) → Heap → Prop} {YP : World → Heap → Prop} {d : DefRec}
    (hn : l.most = some n) (hdf : d.params.defaults = [])
    (call : ∀ (w : World) (s₀ s₁ : Shared) (mg mb : Str → Option Value) (fa : Addr) (o : Obj) (pm cd doc : Value) (a : Addr) (vs : List Value) (ns : List Int),
      Ground q loose [] XP w s₀ mg mb s₁.heap → YP w s₁.heap →
      s₁.heap.get? fa = some o → o.data = .func (docDef d.name d.params d.body d.scope pm cd doc) → s₁.heap.CodeRec cd d.name → mg d.name = some (.ref fa) →
      s₁.heap.get? a = some { cls := .type "list", data := .seq vs.toArray } → IntsAre vs ns → ns.length ≤ n → s₁.gens = #[] →
      codeAny (model l.prog w) callerA (.call (.ref fa) ⟨[.ref a], []⟩) (fun r s' => r = .ok (.ret (.bool true)) ∧ OldK s₁.heap s'.heap ∧ s'.os = s₁.os ∧ AllBare s'.gens) s₁) :
    WalkO q loose XP YP l.row.toRowW d [] (fun f vs => PySem.call f vs) := by
  intro w s₀ s₁ mg mb G Y fa o pm cd doc dV kV ho hd hcd hD hmg hg args vals as hpre hlay hrd hwl hlo
  obtain rfl : dV = .none := Dflts.none hD hdf
  obtain rfl : kV = .none := Dflts.noKw hD
  obtain ⟨a, vs, ns, rfl, rfl, hobj, hints, hlen⟩ := script_of hn hpre hwl
  refine enter_call (codeAny_mono (call w s₀ s₁ mg mb fa o pm cd doc a vs ns G Y ho (fd_plain hd) hcd hmg hobj hints hlen hg) fun r s' hq => ?_)
  obtain ⟨rfl, h2, h3, h4⟩ := hq
  exact ⟨.inl ⟨.bool true, .bool true, [], rfl, fun _ => rfl, .bool true, post_true l _, fun _ => ⟨List.Pairwise.nil, fun _ hm => (nomatch hm)⟩⟩, h2, h3, h4⟩

/-- the same where the top left finished generators (o_head chose holds_openN): nothing may have changed at all and no generator may be left -/
theorem attachN {l : OpenLaw} {n : Nat} {q : Program} {loose : List Str} {XP : (Str → Option Value) → Heap → Prop} {YP : World → Heap → Prop} {d : DefRec} {x : Str}
    (hn : l.most = some n) (hdf : d.params.defaults = [])
    (hbind : ∀ pm cd doc v : Value, bindArgs (docDef d.name d.params d.body d.scope pm cd doc) ⟨[v], []⟩ = pure [(x, v)])
    (hx : d.scope.names.lookup x = some .local ∨ d.scope.names.lookup x = some .cell)
    (hk : d.scope.kind = .function) (hco : d.scope.isCoroutine = false) (hgen : d.scope.isGenerator = false)
    (body : ∀ (w : World) (s₀ s₁ s : Shared) (mg mb : Str → Option Value) (fa : Addr) (o : Obj) (pm cd doc : Value) (a : Addr) (vs : List Value) (ns : List Int),
      Ground q loose [] XP w s₀ mg mb s₁.heap → YP w s₁.heap →
      s₁.heap.get? fa = some o → o.data = .func (docDef d.name d.params d.body d.scope pm cd doc) → s₁.heap.CodeRec cd d.name → mg d.name = some (.ref fa) →
      s₁.heap.get? a = some { cls := .type "list", data := .seq vs.toArray } → IntsAre vs ns → ns.length ≤ n →
      s.gens = #[] → s.os = s₁.os →
      Fr s₁.heap s₁.heap.objs.size s.heap (bindL (envOfC d.name d.scope s₁.heap.objs.size fa cd).kindOf [(x, .ref a)] fun _ => none) →
      Cl s₁.heap.objs.size (cellsFrom (s₁.heap.objs.size + 1) d.scope.names []) s.heap (bindC (envOfC d.name d.scope s₁.heap.objs.size fa cd).kindOf [(x, .ref a)] fun _ => none) →
      wpAny (model l.prog w) (callerA.deeper (envOfC d.name d.scope s₁.heap.objs.size fa cd)) (execs d.body (envOfC d.name d.scope s₁.heap.objs.size fa cd))
        (fun f s' => f = .ret (.bool true) ∧ (∀ b o, s₁.heap.get? b = some o → s'.heap.get? b = some o) ∧ s'.os = s₁.os ∧ s'.gens = #[]) (fun _ _ => False) s) :
    WalkN q loose XP YP l.row.toRowW d [] (fun f vs => PySem.call f vs) := by
  intro w s₀ s₁ mg mb G Y fa o pm cd doc dV kV ho hd hcd hD hmg hg args vals as hpre hlay hrd hwl hlo
  obtain rfl : dV = .none := Dflts.none hD hdf
  obtain rfl : kV = .none := Dflts.noKw hD
  obtain ⟨a, vs, ns, rfl, rfl, hobj, hints, hlen⟩ := script_of hn hpre hwl
  refine enter_callW ?_
  refine call_cells_ret (o := o) (by rw [depth_caller]; decide) ho (fd_plain hd) G.T.nolimit hcd (hbind pm cd doc (.ref a)) (fun y hy => ?_) (fun h₁ tk F X => ?_) hco hgen hk
  · obtain rfl : y = (x, Value.ref a) := List.mem_singleton.mp hy
    rcases hx with e | e
    · exact .inl e
    · exact .inr ⟨e, cellsFrom_some _ _ _ (.inl e)⟩
  · refine wpAny_mono (body w s₀ s₁ { s₁ with heap := h₁, toks := tk } mg mb fa o pm cd doc a vs ns G Y ho (fd_plain hd) hcd hmg hobj hints hlen hg rfl F X) (fun f s' hq => ?_) (fun _ _ hq => hq)
    obtain ⟨rfl, h2, h3, h4⟩ := hq
    exact ⟨.inl ⟨.bool true, .bool true, [], rfl, fun _ => rfl, .bool true, post_true l _, fun _ => ⟨List.Pairwise.nil, fun _ hm => (nomatch hm)⟩⟩, h2, h3, h4⟩

/-! ### rules over ANY heap (no ledger) from facts about the written part K: the library's own take a ledger (News) for what they write -/
section
variable {prog : Program} {w : World} {A : Around} {E : Value → Shared → Prop} {s : Shared} {K : Frag}

/-- a def of the module, or a method (qual 'C.m'), entered: the frame is the next address; cells behind it -/
theorem call_fn {R : Result → Shared → Prop} {name qual : Str} {params : Arguments} {body : List Stmt} {scope : Scope} {dV kV doc pm cdv ct oc : Value} {an od : Option Addr} {osl : Array (Option Value)} {f : Addr} {args : Args} {binds : List (Str × Value)}
    (X : K.In s.heap) (hlim : s.heap.NoLimit) (ho : K.lookup f = some ⟨oc, od, .func (fnOf name qual params body scope dV kV doc pm an cdv ct), osl⟩) (hcd : codeIn K cdv qual = true) (hroom : A.depth < recursionLimit)
    (hbind : BindsTo s (fnOf name qual params body scope dV kV doc pm an cdv ct) args binds)
    (hkind : (binds.all fun y => scope.names.lookup y.1 == some .local || scope.names.lookup y.1 == some .cell) = true)
    (h : ∀ s₁, InCallC s s.heap.objs.size (bindL (envOfC qual scope s.heap.objs.size f cdv).kindOf binds fun _ => none) (cellsFrom (s.heap.objs.size + 1) scope.names [])
        (bindC (envOfC qual scope s.heap.objs.size f cdv).kindOf binds fun _ => none) s₁ →
      wpAny (model prog w) (A.deeper (envOfC qual scope s.heap.objs.size f cdv)) (execs body (envOfC qual scope s.heap.objs.size f cdv))
        (fun fl s' => R (.ok (.ret (match fl with | .ret v => v | _ => .none))) s')
        (fun e s' => wpAny (model prog w) (A.deeper (envOfC qual scope s.heap.objs.size f cdv)) (leaving (envOfC qual scope s.heap.objs.size f cdv) e) (fun _ s'' => R (.error e) s'') (fun e' s'' => R (.error e') s'') s') s₁)
    (hco : scope.isCoroutine = false) (hgen : scope.isGenerator = false) (hk : scope.kind = .function) : codeAny (model prog w) A (.call (.ref f) args) R s := by
  refine codeAny_call_function hroom (X _ _ ho) rfl hco hgen rfl (codeRec_of X hcd) (hbind _ _ _ _ ?_)
  refine wpAny_newFunctionEnv_cells hk (kindsX hkind _) fun env he s₁ x => ?_
  subst he
  exact ⟨hlim.keeps x.toInCall.keep, codeAny_func (h s₁ x)⟩

/-- C(..): dict at size, instance at size + 1, then __init__ -/
theorem make_obj {R : Result → Shared → Prop} {C fI : Addr} {rest : List Value} {kw : List (Str × Value)}
    (X : K.In s.heap) (hm : makesIn K C = true) (hi : findIn K (.ref C) "__init__" = some (some (.ref fI))) (hf : isFn K (.ref fI) = true)
    (h : codeAny (model prog w) (A.under (.builtin "type.__call__" ⟨.ref C :: rest, kw⟩)) (.call (.ref fI) ⟨.ref (s.heap.objs.size + 1) :: rest, kw⟩) (InitBack (s.heap.objs.size + 1) R)
      { s with heap := (s.heap.push emptyDict).push (instObj C s.heap.objs.size) }) : codeAny (model prog w) A (.call (.ref C) ⟨rest, kw⟩) R s := by
  obtain ⟨hh, g, d, t, os⟩ := s
  exact make_core (makes_of X hm) (looks_findIn X hi) (fun self => bind_fn X self (beq_iff_eq.mp hf)) (.inl rfl) h

/-- x.name where the instance's dict holds the name and the class does not -/
theorem get_field {x C : Addr} {ox : Obj} {es : List DictEntry} {n : Nat} {name : Str} {expr : Bool} {v : Value} {Q : Value → Shared → Prop}
    (X : K.In s.heap) (I : PySem.W.InstAt s.heap x ox C (some (dictOf es n))) (hg : plainGet K C name = true) (hh : hasDictIn K C = true) (ha : findIn K (.ref C) name = some none)
    (hl : getL name es = some (some v)) (hv : handedIn v = true) (h : Q v { s with toks := s.toks + 1 }) : wpAny (model prog w) A (getAttr (.ref x) name expr) Q E s :=
  get_value X I (plainGet_of hg).1 (findObj_own hh ha rfl hl) hv h

/-- x.m(..): the method found in the class -/
theorem get_method {x C f : Addr} {ox : Obj} {es : List DictEntry} {n : Nat} {name : Str} {pl : Sem Bool} {Q : Value × List Value → Shared → Prop}
    (X : K.In s.heap) (I : PySem.W.InstAt s.heap x ox C (some (dictOf es n))) (hg : plainGet K C name = true) (hf : findIn K (.ref C) name = some (some (.ref f))) (ht : isFn K (.ref f) = true)
    (hl : getL name es = some none) (h : Q (.ref f, [.ref x]) s) : wpAny (model prog w) A (getMethod (.ref x) name pl) Q E s :=
  method_fn X I (plainGet_of hg).1 (plainGet_of hg).2 hf (beq_iff_eq.mp ht) (by show (lookIn name (dictOf es n)).map _ = _; rw [lookIn_dict, hl]; rfl) h

/-! the whole heap as the ledger: makes every rule that writes through a ledger a rule over any heap -/
def noObjs (h : Heap) : Heap := { h with objs := #[] }
theorem noObjs_get (h : Heap) (b : Addr) : (noObjs h).get? b = none := by
  cases e : (noObjs h).get? b with
  | none => rfl
  | some o => exact absurd (Heap.lt_size e) (Nat.not_lt_zero _)
def ledger (h : Heap) (L d : Addr) : List (Addr × Obj) := (List.range h.objs.size).filterMap fun a => if a = L ∨ a = d then none else (h.get? a).map fun o => (a, o)
theorem mem_ledger {h : Heap} {L d a : Addr} {o : Obj} : (a, o) ∈ ledger h L d ↔ a ≠ L ∧ a ≠ d ∧ h.get? a = some o := by
  unfold ledger
  rw [List.mem_filterMap]
  constructor
  · rintro ⟨b, _, e⟩
    split at e
    · cases e
    · rename_i hb
      obtain ⟨o', ho, e'⟩ := Option.map_eq_some_iff.mp e
      cases e'
      exact ⟨fun q => hb (.inl q), fun q => hb (.inr q), ho⟩
  · rintro ⟨n1, n2, ho⟩
    refine ⟨a, List.mem_range.mpr (Heap.lt_size ho), ?_⟩
    rw [if_neg (show ¬ (a = L ∨ a = d) from fun q => q.elim n1 n2), ho] <;> rfl
theorem news_ledger {h : Heap} {L d : Addr} {od : Obj} (hne : d ≠ L) (ho : h.get? d = some od) : News (noObjs h) L h ([] ++ (d, od) :: ledger h L d) := by
  rintro ⟨a, o⟩ hp
  rcases List.mem_cons.mp hp with e | hp
  · cases e
    exact ⟨ho, hne, noObjs_get _ _⟩
  · obtain ⟨n1, n2, e⟩ := mem_ledger.mp hp
    exact ⟨e, n1, noObjs_get _ _⟩
theorem fr_all {h : Heap} {L : Addr} {m : Str → Option Value} (n : h.Ns L m) : Fr (noObjs h) L h m :=
  ⟨n, fun b o e => (by rw [noObjs_get] at e; cases e), Nat.zero_le _⟩
/-- Upd of the head entry (for append_K, setItem_K ..) -/
theorem upd_ledger {h : Heap} {L d : Addr} {o o' : Obj} : Upd d o o' ((d, o) :: ledger h L d) ((d, o') :: ledger h L d) :=
  .head fun ⟨_, _⟩ hp => (mem_ledger.mp hp).2.1

/-- x.name = v over any heap: L is any namespace of the heap (the frame's, say): its map stays, its object is not told; all else but the dict stays -/
theorem set_field {x C dx L : Addr} {ox : Obj} {m : Str → Option Value} {es es' : List DictEntry} {n n' : Nat} {name : Str} {v : Value} {Q : Unit → Shared → Prop}
    (X : K.In s.heap) (I : PySem.W.InstAt s.heap x ox C (some (dictOf es n))) (hd : ox.dict = some dx) (hL : s.heap.Ns L m) (hne : dx ≠ L)
    (hs : findIn K (.ref C) "__setattr__" = some (some (.builtin "object.__setattr__"))) (hp : plainOver K C = true) (ht : takerIn K C name = some none) (hh : hasDictIn K C = true) (hl : (getL name es).isSome = true)
    (e : (putL name (PyData.keyHash w.params name) (.str name (s.toks + 1)) v es, putN name es n) = (es', n')) (hz : es'.length ≤ 1000)
    (h : ∀ h' : Heap, h'.Ns L m → h'.get? dx = some (dictOf es' n') → (∀ b o, b ≠ dx → b ≠ L → s.heap.get? b = some o → h'.get? b = some o) → Q () { s with heap := h', toks := s.toks + 2 }) :
    wpAny (model prog w) A (setAttr (.ref x) name v) Q E s := by
  obtain ⟨e1, e2⟩ := Prod.mk.inj e
  have hdx : s.heap.get? dx = some (dictOf es n) := by
    have := I.dict
    rw [hd] at this
    exact this
  refine set_plain X I hs (osa_dict (s := { s with toks := s.toks + 1 }) (h₀ := noObjs s.heap) (L := L) (m := m) (od := dictOf es n) (od' := dictOf es' n') (es := es') (n := n') (pre := []) (post := ledger s.heap L dx)
    (fr_all hL) (news_ledger hne hdx) X I hd hp ht hh hl (fun _ q => nomatch q) (fun ⟨_, _⟩ q => (mem_ledger.mp q).2.1) (by rw [putName_dict, e1, e2]) rfl hz fun h' F' N' => ?_)
  exact h h' F'.ns (N'.get (List.Mem.head _)) fun b o n1 n2 ho => N'.get (List.Mem.tail _ (mem_ledger.mpr ⟨n2, n1, ho⟩))
end
end Att

namespace L2
open PySem PySem.Spec PyProof.Rows

theorem vals_ints : ∀ {vs : List Value} {ns : List Int}, IntsAre vs ns → Vals (ns.map V.int) vs
  | _, _, .nil => .nil
  | _, _, .cons n t h => .cons ⟨t, rfl⟩ (vals_ints h)

/-- nothing is tracked but the script, known to the object (or it is an object of the module) -/
def Only (H : Hp) : Prop := ∀ b, H b = none ∨ ∃ o xs, H b = some (.frz o (.lst xs))

/-- THE HEAD: the law's promise, at the heap behind the top. F, the promise of the law's def, may use that base is part of the heap (so K.In base, base.Ns mainGlobals mg stand in Mod) -/
theorem law_call {P : Program} {w : World} {K : PySem.W.Frag} {mg mb : Str → Option Value} {CX : CXT} {k : Nat} {fa a : Addr} {fd : FuncData} {x : Str} {sp : Sp} {s₁ : Shared} {vs : List Value} {ns : List Int}
    (KX : K.In s₁.heap) (hns : s₁.heap.Ns mainGlobals mg) (hb : s₁.heap.Ns builtinsNs mb) (hbb : ∀ x : Str, x ≠ "__name__" → mb x = bootBuiltins x) (hlim : s₁.heap.NoLimit) (hg : s₁.gens = #[])
    (ha : s₁.heap.get? a = some { cls := .type "list", data := .seq vs.toArray }) (hi : IntsAre vs ns) (hl : ns.length ≤ sizeLine) (hr : Room k callerA)
    (F : ∀ base : Heap, K.In base → base.Ns mainGlobals mg → FnOk P w K mg base CX k fa fd [x] sp) (hbind : ∀ (s : Shared) (u : Value), BindsTo s fd ⟨[u], []⟩ [(x, u)])
    (hsp : ∀ H : Hp, Only H → SqL K H a (ns.map V.int) → sp [.ref a] H (fun v _ => v = .bl true) fun _ _ _ => False)
    (hCX : ∀ H e s', CX [] H s₁ (fun _ _ _ => False) e s' → False) :
    codeAny (model P w) callerA (.call (.ref fa) ⟨[.ref a], []⟩) (fun r s' => r = .ok (.ret (.bool true)) ∧ OldK s₁.heap s'.heap ∧ s'.os = s₁.os ∧ AllBare s'.gens) s₁ := by
  have rv := vals_ints hi
  have lenV := hi.length
  -- from an abstract heap in which nothing but the script may be tracked
  have core : ∀ H : Hp, Only H → SqL K H a (ns.map V.int) → HOk P w H s₁.heap → (∀ b, H b ≠ none → b = a) → (H a ≠ none → K.lookup a = none) →
      codeAny (model P w) callerA (.call (.ref fa) ⟨[.ref a], []⟩) (fun r s' => r = .ok (.ret (.bool true)) ∧ OldK s₁.heap s'.heap ∧ s'.os = s₁.os ∧ AllBare s'.gens) s₁ := by
    intro H hO hS hok hA hK
    have base_of : ∀ {b : Addr} {o : Obj}, s₁.heap.get? b = some o → H b = none → (hidT s₁.heap H).get? b = some o := fun e n => hidT_get e n
    have noA : ∀ {b : Addr} {o : Obj} {es : Array DictEntry} {ep : Nat}, s₁.heap.get? b = some o → o.data = .dict es ep → H b = none := fun {b o es ep} e d => by
      cases q : H b with
      | none => rfl
      | some u =>
        have e' : b = a := hA b (by rw [q]; simp)
        subst e'
        rw [ha] at e; cases e
        have d' : Data.seq vs.toArray _ = Data.dict es ep := d
        cases d'
    have nsK : ∀ {b : Addr} {m : Str → Option Value}, s₁.heap.Ns b m → (hidT s₁.heap H).Ns b m := fun {b m} ⟨o, es, ep, e, d, r⟩ => ⟨o, es, ep, base_of e (noA e d), d, r⟩
    have hKb : K.In (hidT s₁.heap H) := fun b o e => base_of (KX b o e) (by
      cases q : H b with
      | none => rfl
      | some u =>
        have e' : b = a := hA b (by rw [q]; simp)
        subst e'
        rw [hK (by rw [q]; simp)] at e; cases e)
    have hM : Mod K mg (hidT s₁.heap H) := ⟨hKb, nsK hns, ⟨mb, nsK hb, hbb⟩, let ⟨mc, h1, h2⟩ := hlim; ⟨mc, nsK h1, h2⟩⟩
    have e0 : Env0 P w K mg (hidT s₁.heap H) callerA [] s₁ H := ⟨rfl, hM, fun b o e => of_hidT e, Nat.le_of_eq (hidT_size _ _), trivial, fun b hb => absurd (show b ∈ ([] : List Addr) from hb) (by simp), hok, .of_eq hg⟩
    refine codeAny_mono ((F _ hKb (nsK hns)).run callerA [] s₁ H ⟨[.ref a], []⟩ [.ref a] [.ref a] _ _ hr e0 (hbind s₁ (.ref a)) (.cons rfl .nil) (hsp H hO hS)) fun r s' h => ?_
    cases r with
    | error e => exact (hCX H e s' h).elim
    | ok fl =>
      cases fl with
      | next => exact False.elim h
      | brk => exact False.elim h
      | cont => exact False.elim h
      | ret u =>
        obtain ⟨v, H', os, bare, un, hok', r', q⟩ := h
        have q' : v = .bl true := q
        subst q'
        obtain rfl : u = Value.bool true := r'
        refine ⟨rfl, OldK.of_keep fun b o e => ?_, os, bare⟩
        cases q : H b with
        | none => exact un.keep b o e q (by intro z; exact absurd (show b ∈ ([] : List Addr) from z) (by simp)) (by simp)
        | some u =>
          rcases hO b with z | ⟨ob, xs, z⟩
          · rw [q] at z; cases z
          · have z2 := un.frzs b ob _ z
            obtain ⟨e1, _⟩ := hok b _ z
            obtain ⟨e2, _⟩ := hok' b _ z2
            rw [e] at e1; cases e1
            exact e2
  cases hk : K.lookup a with
  | some o =>
    -- the script is one of the module's own objects
    have e := KX a o hk
    rw [ha] at e
    cases e
    refine core (fun _ => none) (fun _ => .inl rfl) (.inr ⟨_, vs.toArray, _, hk, rfl, rfl, rfl, by rw [List.size_toArray, lenV]; exact hl, by simpa using rv⟩) (fun b u z => by have z' : (none : Option HO) = some u := z; cases z') (fun b z => absurd rfl z) fun z => absurd rfl z
  | none =>
    refine core (fun b => if b = a then some (.frz { cls := .type "list", data := .seq vs.toArray } (.lst (ns.map V.int))) else none) (fun b => ?_) (.inl (.inr ⟨{ cls := .type "list", data := .seq vs.toArray }, if_pos rfl⟩)) (fun b u z => ?_) (fun b z => ?_) fun _ => hk
    · by_cases hb : b = a
      · exact .inr ⟨_, _, if_pos hb⟩
      · exact .inl (if_neg hb)
    · by_cases hb : b = a
      · have z' := (if_pos hb).symm.trans z
        cases z'
        subst hb
        exact ⟨ha, by rw [List.length_map]; exact hl, vs, _, rv, ha⟩
      · have z' := (if_neg hb).symm.trans z
        cases z'
    · by_cases hb : b = a
      · exact hb
      · exact absurd (if_neg hb) z
end L2

namespace L2
open PySem PySem.Spec PyProof.Rows

abbrev KOf {K : PySem.W.Frag} {h : Heap} (_ : K.In h) : PySem.W.Frag := K

/-- the goal that k_head leaves (case hc), from the law's promise. F gives the function object fd (K's own) once, then the promise over every base -/
theorem walk_of {l : PySem.W.OpenLaw} {n k : Nat} {q : Program} {loose : List Str} {XP : (Str → Option Value) → Heap → Prop} {YP : World → Heap → Prop} {d : DefRec} {K : Params → PySem.W.Frag} {CX : World → CXT} {sp : World → Sp} {x : Str}
    (hn : l.most = some n) (hn2 : n ≤ sizeLine) (hdf : d.params.defaults = []) (hr : Room k callerA)
    (hY : ∀ (w : World) (h : Heap), YP w h → (K w.params).In h)
    (F : ∀ (w : World) (mg : Str → Option Value) (fa : Addr) (h : Heap), (K w.params).In h → h.Ns mainGlobals mg → mg d.name = some (.ref fa) →
      ∃ fd : FuncData, (∀ (s : Shared) (u : Value), BindsTo s fd ⟨[u], []⟩ [(x, u)]) ∧
        ∀ base : Heap, (K w.params).In base → base.Ns mainGlobals mg → FnOk l.prog w (K w.params) mg base (CX w) k fa fd [x] (sp w))
    (hsp : ∀ (w : World) (H : Hp) (a : Addr) (ns : List Int), ns.length ≤ n → Only H → SqL (K w.params) H a (ns.map V.int) → sp w [.ref a] H (fun v _ => v = .bl true) fun _ _ _ => False)
    (hCX : ∀ (w : World) (H : Hp) (s : Shared) (e : Value) (s' : Shared), CX w [] H s (fun _ _ _ => False) e s' → False) :
    PySem.W.WalkO q loose XP YP l.row.toRowW d [] (fun f vs => PySem.call f vs) := by
  refine Att.attach_call hn hdf fun w s₀ s₁ mg mb fa o pm cd doc a vs ns G Y ho hd hcd hmg hobj hints hlen hg => ?_
  have KX := hY w _ Y
  obtain ⟨fd, hb, hF⟩ := F w mg fa _ KX G.T.g hmg
  exact law_call KX G.T.g G.T.b G.T.builtins G.T.nolimit hg hobj hints (Nat.le_trans hlen hn2) hr hF hb (fun H hO hS => hsp w H a ns hlen hO hS) fun H e s' => hCX w H s₁ e s'
/-- the same where the promise hangs on the written part alone: (sp := My.sp_law), no hole under a binder -/
theorem walk_ofK {l : PySem.W.OpenLaw} {n k : Nat} {q : Program} {loose : List Str} {XP : (Str → Option Value) → Heap → Prop} {YP : World → Heap → Prop} {d : DefRec} {K : Params → PySem.W.Frag} {CX : CXT} {sp : PySem.W.Frag → Sp} {x : Str}
    (hn : l.most = some n) (hn2 : n ≤ sizeLine) (hdf : d.params.defaults = []) (hr : Room k callerA)
    (hY : ∀ (w : World) (h : Heap), YP w h → (K w.params).In h)
    (F : ∀ (w : World) (mg : Str → Option Value) (fa : Addr) (h : Heap), (K w.params).In h → h.Ns mainGlobals mg → mg d.name = some (.ref fa) →
      ∃ fd : FuncData, (∀ (s : Shared) (u : Value), BindsTo s fd ⟨[u], []⟩ [(x, u)]) ∧
        ∀ base : Heap, (K w.params).In base → base.Ns mainGlobals mg → FnOk l.prog w (K w.params) mg base CX k fa fd [x] (sp (K w.params)))
    (hsp : ∀ (K : PySem.W.Frag) (H : Hp) (a : Addr) (ns : List Int), ns.length ≤ n → Only H → SqL K H a (ns.map V.int) → sp K [.ref a] H (fun v _ => v = .bl true) fun _ _ _ => False)
    (hCX : ∀ (H : Hp) (s : Shared) (e : Value) (s' : Shared), CX [] H s (fun _ _ _ => False) e s' → False) :
    PySem.W.WalkO q loose XP YP l.row.toRowW d [] (fun f vs => PySem.call f vs) :=
  walk_of (K := K) (CX := fun _ => CX) (sp := fun w => sp (K w.params)) hn hn2 hdf hr hY F (fun w H a ns h1 h2 h3 => hsp (K w.params) H a ns h1 h2 h3) fun _ H s e s' => hCX H s e s'
end L2

/- THE LAST THEOREM (shape; LID, My.* are yours):
   My.Adr: a structure of the addresses that your layer names (classes, functions); My.Txt K t: a structure (Prop) of the equations over K;
   My.txt_mk : {K} {implicit addresses ..} (e1 : nsIn K mainGlobals "law" = some (some (.ref f))) (e2 : K.lookup f = some ⟨oc, od, .func (fnOf "law" "law" params body scope dV kV doc pm an cdv ct), sl⟩) (e3 : codeIn K cdv "law" = true) .. : ∃ t, My.Txt K t

set_option maxRecDepth 100000 in
set_option maxHeartbeats 0 in
theorem PySem.Challenge.cw_LID_holds : PySem.Challenge.rw_LID.Holds := by
  w_on; o_law; k_head; (case hw => w_witness2)
  k_fill
  refine L2.walk_of (l := PySem.Challenge.rw_LID) (n := 63) (k := 40) (x := "script") (CX := fun w => ..) (sp := fun _ => My.sp_law) rfl (by decide) rfl ⟨rfl, by decide, by decide⟩ (fun w h Y => PySem.W.kIn_of Y) ?F ?S ?C
  case F =>
    intro w mg fa h KX G hmg
    have T : ∃ t, My.Txt (L2.KOf KX) t := by
      dsimp only [L2.KOf]                          -- K must stand as «<heap const> w.params» for k_is
      refine' My.txt_mk ?e1 ?e2 ?e3 ..
      (case e1 => PySem.W.k_is)                    -- in the order: a name -> its address -> its object -> its parts
      (case e2 => PySem.W.k_is)
      ..
    obtain ⟨t, T⟩ := T
    have e0 := hmg.symm.trans (PySem.W.mg_of KX G T.law)
    cases e0                                       -- fa is the law's own address
    exact ⟨_, fun s u => .of_eq rfl, fun base kb nb => My.law_fn T kb nb⟩     -- if «.of_eq rfl» comes too early: refine' ⟨_, ?b, fun base kb nb => My.law_fn T kb nb⟩; exact fun s u => .of_eq rfl
  case S => exact fun w H a ns hl hO hS => ..
  case C => exact ..
(the tactic k_is has no namespace: write k_is) -/

/-! SHORT WORDS over the layer: a def of the text, its body, what a loop and a test want. -/
namespace L2
open PySem PySem.Spec PyProof.Rows

/-! ### the text by places -/
/-- the j-th statement of a class's body -/
def inClass (s : Stmt) (j : Nat) : Stmt := match s with
  | .ClassDef _ _ _ body _ _ _ _ _ _ _ => body.getD j (.Pass ⟨0, 0, 0, 0⟩)
  | _ => .Pass ⟨0, 0, 0, 0⟩
def defArgs (s : Stmt) : Arguments := match s with
  | .FunctionDef _ a _ _ _ _ _ _ _ _ => a
  | _ => { posonlyargs := [], args := [], vararg := none, kwonlyargs := [], kw_defaults := [], kwarg := none, defaults := [] }
def defBody (s : Stmt) : List Stmt := match s with
  | .FunctionDef _ _ b _ _ _ _ _ _ _ => b
  | _ => []
def defScope (s : Stmt) : Scope := match s with
  | .FunctionDef _ _ _ _ _ _ sc _ _ _ => sc
  | _ => { kind := .function, names := [], isGenerator := false, isCoroutine := false }

/-! ### no exception leaves a def -/
abbrev CX0 : CXT := fun _ _ _ _ _ _ => False
abbrev E0 : XK := fun _ _ _ => False
theorem pass0 {X : Cx} : Passes CX0 X E0 := fun _ _ _ _ _ _ _ h => h.elim

/-! ### a def (or method) of the text as it stands behind the top -/
structure Fun (K : PySem.W.Frag) (x qual : Str) (st : Stmt) (f : Addr) (fd : FuncData) : Prop where
  ex : ∃ (oc : Value) (od : Option Addr) (kV doc pm : Value) (an : Option Addr) (cdv ct : Value) (osl : Array (Option Value)),
    fd = PySem.W.fnOf x qual (defArgs st) (defBody st) (defScope st) .none kV doc pm an cdv ct ∧ K.lookup f = some ⟨oc, od, .func fd, osl⟩ ∧ PySem.W.codeIn K cdv qual = true
  kp : PySem.W.keepIn K (.ref f) = true
section
variable {P : Program} {w : World} {K : PySem.W.Frag} {mg : Str → Option Value} {base : Heap}
/-- THE RULE for a def: its body as a term of rules, and the reading of that term -/
theorem Fun.ok {x qual : Str} {st : Stmt} {f : Addr} {fd : FuncData} {N ps : List Str} {k : Nat} {sp : Sp} (F : Fun K x qual st f fd) (S : FnScope N ps (defScope st)) (len : ∀ vs H Q E, sp vs H Q E → vs.length = ps.length)
    (hbody : ∀ (cdv : Value) (A : Around) (outer : List Env) (s : Shared) (H : Hp) (vs : List V) (Q : VK) (E : XK), Room k (A.deeper (envOfC qual (defScope st) s.heap.objs.size f cdv)) → sp vs H Q E →
      ∃ t, PSs (cxOf CX0 P w K mg base N qual (defScope st) f cdv A outer s H E).nox (defBody st) t ∧ t { nx := fun _ H' => Q .non H', rt := Q } (start N vs) H) : FnOk P w K mg base CX0 (k + 1) f fd ps sp := by
  obtain ⟨oc, od, kV, doc, pm, an, cdv, ct, osl, rfl, lk, hcd⟩ := F.ex
  refine fn_of lk hcd S len fun A outer s H vs Q E hr hsp => ?_
  obtain ⟨t, h, q⟩ := hbody cdv A outer s H vs Q E hr hsp
  exact ⟨t, h.nox, q⟩
/-- how its arguments bind (no defaults): h is «fun _ _ _ _ _ _ us hl => match us, hl with | [_, _], _ => rfl», one _ a parameter -/
theorem Fun.binds {x qual : Str} {st : Stmt} {f : Addr} {fd : FuncData} {ps : List Str} (F : Fun K x qual st f fd)
    (h : ∀ (kV doc pm : Value) (an : Option Addr) (cdv ct : Value) (us : List Value), us.length = ps.length → bindArgs (PySem.W.fnOf x qual (defArgs st) (defBody st) (defScope st) .none kV doc pm an cdv ct) ⟨us, []⟩ = pure (ps.zip us)) : Binds K fd ps [] := by
  obtain ⟨oc, od, kV, doc, pm, an, cdv, ct, osl, rfl, lk, hcd⟩ := F.ex
  exact .all (h kV doc pm an cdv ct)
theorem fun_mk {x qual : Str} {st : Stmt} {f : Addr} {oc : Value} {od an : Option Addr} {osl : Array (Option Value)} {kV doc pm cdv ct : Value} (l : K.lookup f = some ⟨oc, od, .func (PySem.W.fnOf x qual (defArgs st) (defBody st) (defScope st) .none kV doc pm an cdv ct), osl⟩)
    (c : PySem.W.codeIn K cdv qual = true) (k : PySem.W.keepIn K (.ref f) = true) : Fun K x qual st f (PySem.W.fnOf x qual (defArgs st) (defBody st) (defScope st) .none kV doc pm an cdv ct) := ⟨⟨oc, od, kV, doc, pm, an, cdv, ct, osl, rfl, l, c⟩, k⟩
end
theorem hu_of {A : Around} {k : Nat} (hr : Room k A) : A.units + 1 < cLine := Nat.lt_of_le_of_lt (Nat.add_le_add_left (by decide : 1 ≤ 64) _) hr.units
theorem small1000 {n : Nat} (h : n ≤ 1000) : n < sizeLine := Nat.lt_of_le_of_lt h (by decide)

/-! ### expressions in short: the name that stands in the i-th slot -/
section
variable {X : Cx}
theorem pv (i : Nat) {x : Str} {pos : Pos} (hN : X.N[i]? = some x := by with_unfolding_all rfl) (hv : Vis X.env.scope x := by with_unfolding_all (first | exact Or.inl rfl | exact Or.inr (Or.inl rfl) | exact Or.inr (Or.inr rfl))) (hd : (x == ("__debug__" : Str)) = false := by decide)
    (hcd : (x == ("__classdict__" : Str)) = false := by decide) : PE X (.Name x pos) (tVar i) := pe_var hN hv hd hcd
/-- len of a dict -/
theorem call_lenD : CallR X (.builtin "len") (fun xs H Q => ∃ a kvs, xs = [V.ref a] ∧ H a = some (.dK kvs) ∧ Q (.int kvs.length) H) := by
  intro pins s σ H xs us Q I r h
  obtain ⟨a, kvs, rfl, ha, q⟩ := h
  obtain ⟨u, rfl, ru⟩ := vals1 r
  cases ru
  exact d_len I (.inl ha) fun t s' I' => ⟨.int kvs.length, H, I', ⟨t, rfl⟩, q⟩
end

/-! ### tests -/
theorem iteF {A B : Prop} (h : B) : if false = true then A else B := by
  rw [if_neg Bool.false_ne_true]
  exact h
theorem iteT {A B : Prop} (h : A) : if true = true then A else B := by
  rw [if_pos rfl]
  exact h
theorem ite2 {c A B : Prop} [Decidable c] (h1 : c → A) (h2 : ¬ c → B) : if c then A else B := by
  by_cases h : c
  · rw [if_pos h]
    exact h1 h
  · rw [if_neg h]
    exact h2 h
theorem iteNS {c A B : Prop} [Decidable c] (hc : c) (h : B) : if (!decide c) = true then A else B := by
  rw [decide_eq_true hc]
  exact iteF h

/-! ### heaps -/
/-- all that was tracked is as it was -/
def Same (H H' : Hp) : Prop := ∀ b o, H b = some o → H' b = some o
theorem Same.refl (H : Hp) : Same H H := fun _ _ h => h
theorem Same.trans {H H1 H2 : Hp} (a : Same H H1) (b : Same H1 H2) : Same H H2 := fun c o h => b c o (a c o h)
theorem Same.free {H H' : Hp} (e : Same H H') {l : Addr} (h : H' l = Option.none) : H l = Option.none := by
  cases q : H l with
  | none => rfl
  | some o =>
    rw [e l o q] at h
    cases h
theorem Same.seq {K : PySem.W.Frag} {H H' : Hp} {a : Addr} {xs : List V} (e : Same H H') (h : SqL K H a xs) : SqL K H' a xs := by
  rcases h with (h | ⟨o, h⟩) | h
  · exact .inl (.inl (e _ _ h))
  · exact .inl (.inr ⟨o, e _ _ h⟩)
  · exact .inr h

/-! ### a dict's pairs: keys that differ -/
section
variable {κ : Type} [DecidableEq κ]
theorem valV_not {kvs : List (κ × V)} {k : κ} (h : valV kvs k = none) : ¬ k ∈ kvs.map (·.1) := by
  intro m
  obtain ⟨p, hp, e⟩ := List.mem_map.mp m
  have q : (kvs.any fun kv => decide (kv.1 = k)) = true := List.any_eq_true.mpr ⟨p, hp, decide_eq_true e⟩
  rw [valV_any, h] at q
  exact absurd q (by simp)
theorem valV_in {kvs : List (κ × V)} {k : κ} {v : V} (h : valV kvs k = some v) : k ∈ kvs.map (·.1) := by
  have q : (kvs.any fun kv => decide (kv.1 = k)) = true := by
    rw [valV_any, h]
    all_goals rfl
  obtain ⟨p, hp, e⟩ := List.any_eq_true.mp q
  exact List.mem_map.mpr ⟨p, hp, of_decide_eq_true e⟩
theorem nd_snoc : ∀ {l : List κ} {k : κ}, l.Nodup → ¬ k ∈ l → (l ++ [k]).Nodup
  | [], k, _, _ => by simp
  | a :: r, k, h, hk => by
    obtain ⟨h1, h2⟩ := List.nodup_cons.mp h
    show (a :: (r ++ [k])).Nodup
    refine List.nodup_cons.mpr ⟨fun m => ?_, nd_snoc h2 fun m => hk (List.mem_cons.mpr (Or.inr m))⟩
    rcases List.mem_append.mp m with q | q
    · exact h1 q
    · exact hk (List.mem_cons.mpr (Or.inl (List.mem_singleton.mp q).symm))
theorem nd_putK {kvs : List (κ × V)} {k : κ} (v : V) (hn : (kvs.map (·.1)).Nodup) (h : valV kvs k = none) : ((putK kvs k v).map (·.1)).Nodup := by
  rw [putK_new v h, List.map_append]
  exact nd_snoc hn (valV_not h)
theorem dropK_pos {p : κ × V} {r : List (κ × V)} {k : κ} (e : p.1 = k) : dropK (p :: r) k = dropK r k := by
  unfold dropK
  rw [List.filter_cons, if_neg (by simp [e])]
theorem dropK_neg {p : κ × V} {r : List (κ × V)} {k : κ} (e : ¬ p.1 = k) : dropK (p :: r) k = p :: dropK r k := by
  unfold dropK
  rw [List.filter_cons, if_pos (by simp [e])]
theorem dropK_no : ∀ {kvs : List (κ × V)} {k : κ}, ¬ k ∈ kvs.map (·.1) → dropK kvs k = kvs
  | [], _, _ => rfl
  | p :: r, k, h => by
    have h' : ¬ k ∈ r.map (·.1) := fun m => by
      obtain ⟨q, hq, e⟩ := List.mem_map.mp m
      exact h (List.mem_map.mpr ⟨q, List.mem_cons.mpr (Or.inr hq), e⟩)
    rw [dropK_neg fun e => h (List.mem_map.mpr ⟨p, List.mem_cons.mpr (Or.inl rfl), e⟩), dropK_no h']
theorem dropK_mem {kvs : List (κ × V)} {k : κ} {p : κ × V} (h : p ∈ dropK kvs k) : p ∈ kvs := (List.mem_filter.mp h).1
theorem nd_dropK : ∀ {kvs : List (κ × V)} {k : κ}, (kvs.map (·.1)).Nodup → ((dropK kvs k).map (·.1)).Nodup
  | [], _, _ => List.nodup_nil
  | p :: r, k, h => by
    have h : (p.1 :: r.map (·.1)).Nodup := h
    obtain ⟨h1, h2⟩ := List.nodup_cons.mp h
    by_cases e : p.1 = k
    · rw [dropK_pos e]
      exact nd_dropK h2
    · rw [dropK_neg e]
      show (p.1 :: (dropK r k).map (·.1)).Nodup
      refine List.nodup_cons.mpr ⟨fun m => h1 ?_, nd_dropK h2⟩
      obtain ⟨q, hq, eq⟩ := List.mem_map.mp m
      exact List.mem_map.mpr ⟨q, dropK_mem hq, eq⟩
theorem dropK_len : ∀ {kvs : List (κ × V)} {k : κ}, (kvs.map (·.1)).Nodup → k ∈ kvs.map (·.1) → (dropK kvs k).length + 1 = kvs.length
  | [], _, _, m => by simp at m
  | p :: r, k, h, m => by
    have h : (p.1 :: r.map (·.1)).Nodup := h
    have m : k = p.1 ∨ k ∈ r.map (·.1) := List.mem_cons.mp m
    obtain ⟨h1, h2⟩ := List.nodup_cons.mp h
    by_cases e : p.1 = k
    · subst e
      rw [dropK_pos rfl, dropK_no h1]
      all_goals rfl
    · have m' : k ∈ r.map (·.1) := m.resolve_left fun z => e z.symm
      have q := dropK_len h2 m'
      rw [dropK_neg e, List.length_cons, List.length_cons]
      omega
end
end L2

set_option maxHeartbeats 4000000
namespace L2
open PySem PySem.Spec PyProof.Rows

/-! ### list comprehensions -/
/-- the cells that a block takes over -/
def clos (cells : List (Str × Addr)) : List (Str × NameKind) → List (Str × Addr) → List (Str × Addr)
  | [], acc => acc
  | (n, k) :: r, acc => if k == .free then clos cells r ((n, (cells.lookup n).getD 0) :: acc) else clos cells r acc
theorem clos_eq {env : Env} {names : List (Str × NameKind)} (h : ∀ y ∈ names, y.2 = .free → ∃ c, env.cells.lookup y.1 = some c) (acc : List (Str × Addr)) :
    (forIn (m := Sem) names acc fun x cs => do
      let (name, kind) := x
      if kind == .free then
        let c ← cellOf env name
        pure (ForInStep.yield ((name, c) :: cs))
      else pure (ForInStep.yield cs)) = pure (clos env.cells names acc) := by
  induction names generalizing acc with
  | nil => rfl
  | cons y r ih =>
    obtain ⟨n, k⟩ := y
    have hr : ∀ y ∈ r, y.2 = .free → ∃ c, env.cells.lookup y.1 = some c := fun y hy => h y (List.mem_cons_of_mem _ hy)
    rw [List.forIn_cons]
    cases hk : (k == NameKind.free) with
    | true =>
      have e : k = .free := by simpa using hk
      obtain ⟨c, hc⟩ := h (n, k) List.mem_cons_self e
      have hc' : cellOf env n = pure c := by unfold cellOf; rw [show env.cells.lookup n = some c from hc]
      simp only [hk, if_true, hc', clos]
      have := ih hr ((n, c) :: acc)
      rw [show (env.cells.lookup n).getD 0 = c by rw [show env.cells.lookup n = some c from hc]; rfl]
      exact this
    | false =>
      simp only [hk, Bool.false_eq_true, if_false, clos]
      exact ih hr acc
theorem closureFor_eq {sc : Scope} {env : Env} (h : ∀ y ∈ sc.names, y.2 = .free → ∃ c, env.cells.lookup y.1 = some c) : closureFor sc env = pure (clos env.cells sc.names []) := by
  have := clos_eq h []
  unfold closureFor
  refine (congrArg (fun (m : Sem (List (Str × Addr))) => m >>= fun cs => pure cs) this).trans ?_
  rfl
theorem clos_sub {cells : List (Str × Addr)} {x : Str} {c : Addr} : ∀ {names : List (Str × NameKind)} {acc : List (Str × Addr)}, (∀ y ∈ names, y.2 = .free → ∃ c, cells.lookup y.1 = some c) → (∀ x c, acc.lookup x = some c → cells.lookup x = some c) →
    (clos cells names acc).lookup x = some c → cells.lookup x = some c
  | [], acc, _, ha, h => ha x c h
  | (n, k) :: r, acc, hf, ha, h => by
    have hr : ∀ y ∈ r, y.2 = .free → ∃ c, cells.lookup y.1 = some c := fun y hy => hf y (List.mem_cons_of_mem _ hy)
    unfold clos at h
    split at h
    · rename_i hk
      refine clos_sub hr (fun z d hz => ?_) h
      rw [List.lookup_cons] at hz
      split at hz
      · rename_i e
        have e : z = n := by simpa using e
        subst e
        obtain ⟨c', hc'⟩ := hf (z, k) List.mem_cons_self (by simpa using hk)
        rw [show cells.lookup z = some c' from hc'] at hz ⊢
        exact hz
      · exact ha z d hz
    · exact clos_sub hr ha h
theorem clos_has {cells : List (Str × Addr)} {x : Str} : ∀ {names : List (Str × NameKind)} {acc : List (Str × Addr)}, ((x, NameKind.free) ∈ names ∨ ∃ c, acc.lookup x = some c) → ∃ c, (clos cells names acc).lookup x = some c
  | [], acc, h => by
    rcases h with h | h
    · simp at h
    · exact h
  | (n, k) :: r, acc, h => by
    unfold clos
    by_cases hk : (k == NameKind.free) = true
    · rw [if_pos hk]
      refine clos_has ?_
      rcases h with h | ⟨c, h⟩
      · rcases List.mem_cons.mp h with e | h
        · cases e
          exact .inr ⟨_, by rw [List.lookup_cons, beq_self_eq_true]⟩
        · exact .inl h
      · right
        rw [List.lookup_cons]
        cases e : (x == n)
        · exact ⟨c, h⟩
        · exact ⟨_, rfl⟩
    · rw [if_neg hk]
      refine clos_has ?_
      rcases h with h | h
      · rcases List.mem_cons.mp h with e | h
        · cases e
          simp at hk
        · exact .inl h
      · exact .inr h

/-- the block's context -/
@[reducible] def cxLc (X : Cx) (sc : Scope) (Nc : List Str) (C : Addr) (s : Shared) (H : Hp) (ex : List Addr) (pn : List (Addr × Obj)) : Cx where
  prog := X.prog
  w := X.w
  K := X.K
  mg := X.mg
  base := X.base
  A := X.A
  N := Nc
  s₀ := s
  H₀ := H
  env := compEnvC sc (clos X.env.cells sc.names []) C X.env
  outer := X.stack
  stack := X.stack
  ex := ex
  fn := fun _ => false
  calm := X.calm
  pn := pn
  xe := fun _ _ => False

/-- the names of a block: Nc, each its own or the j-th of N -/
structure LcScope (up : Scope) (N : List Str) (sc : Scope) (Nc : List Str) (ix : List (Option Nat)) : Prop where
  kind : sc.kind = .function
  nocell : ∀ y ∈ sc.names, y.2 ≠ .cell
  loc : ∀ y ∈ sc.names, y.2 = .local → sc.names.lookup y.1 = some .local
  free : ∀ y ∈ sc.names, y.2 = .free → up.names.lookup y.1 = some .cell ∨ up.names.lookup y.1 = some .free
  nd : Nc.Nodup
  len : ix.length = Nc.length
  map : ∀ p ∈ Nc.zip ix, (match p.2 with
    | none => true
    | some j => decide (N[j]? = some p.1) && decide (up.names.lookup p.1 = some .cell ∨ up.names.lookup p.1 = some .free) && decide ((p.1, NameKind.free) ∈ sc.names) && decide (sc.names.lookup p.1 = some .free)) = true
def lcσ (ix : List (Option Nat)) (σ : St) : St := ix.map fun o => o.bind fun j => σ[j]?.join
/-- what was known is known -/
def Keep (σ σ' : St) : Prop := σ.length = σ'.length ∧ ∀ (i : Nat) v, σ[i]? = some (some v) → σ'[i]? = some (some v)
theorem keep_set {σ : St} {i : Nat} {x : Option V} (h : σ[i]? = some none) : Keep σ (σ.set i x) := by
  refine ⟨by simp, fun j v e => ?_⟩
  by_cases q : i = j
  · subst q; rw [h] at e; cases e
  · rw [List.getElem?_set_ne q]; exact e
theorem Keep.trans {σ σ' σ'' : St} (a : Keep σ σ') (b : Keep σ' σ'') : Keep σ σ'' := ⟨a.1.trans b.1, fun i v e => b.2 i v (a.2 i v e)⟩
theorem Keep.refl (σ : St) : Keep σ σ := ⟨rfl, fun _ _ e => e⟩

theorem lookup_relabel {sc : Scope} {env : Env} {x : Str} (h : (relabel sc env).names.lookup x = some .cell ∨ (relabel sc env).names.lookup x = some .free) (hn : ∀ y ∈ sc.names, y.2 ≠ .cell) : (x, NameKind.free) ∈ sc.names := by
  have key : ∀ names : List (Str × NameKind), (∀ y ∈ names, y.2 ≠ .cell) → ∀ k, (names.map fun (n, k) => if (k == NameKind.free && env.scope.kind == .function && env.kindOf n == some .cell) then (n, NameKind.cell) else (n, k)).lookup x = some k → (k = .cell ∨ k = .free) → (x, NameKind.free) ∈ names := by
    intro names
    induction names with
    | nil => intro _ k h; simp at h
    | cons y r ih =>
      intro hn k h hk
      obtain ⟨n, k'⟩ := y
      have hr : ∀ y ∈ r, y.2 ≠ .cell := fun y hy => hn y (List.mem_cons_of_mem _ hy)
      rw [List.map_cons] at h
      dsimp only at h
      by_cases hc : (k' == NameKind.free && env.scope.kind == .function && env.kindOf n == some .cell) = true
      · rw [if_pos hc, List.lookup_cons] at h
        cases e : (x == n)
        · rw [e] at h
          exact List.mem_cons_of_mem _ (ih hr k h hk)
        · have e : x = n := by simpa using e
          subst e
          have : k' = .free := by
            simp only [Bool.and_eq_true, beq_iff_eq] at hc
            exact hc.1.1
          subst this
          exact List.mem_cons_self
      · rw [if_neg hc, List.lookup_cons] at h
        cases e : (x == n)
        · rw [e] at h
          exact List.mem_cons_of_mem _ (ih hr k h hk)
        · rw [e] at h
          have e : x = n := by simpa using e
          subst e
          have h : k' = k := by simpa using h
          subst h
          rcases hk with hk | hk
          · exact absurd hk (hn _ List.mem_cons_self)
          · subst hk; exact List.mem_cons_self
  rcases h with h | h
  · exact key sc.names hn _ h (.inl rfl)
  · exact key sc.names hn _ h (.inr rfl)
theorem relabel_free {sc : Scope} {env : Env} {x : Str} : sc.names.lookup x = some .free → (relabel sc env).names.lookup x = some .cell ∨ (relabel sc env).names.lookup x = some .free := by
  have key : ∀ names : List (Str × NameKind), names.lookup x = some .free → (names.map fun (n, k) => if (k == NameKind.free && env.scope.kind == .function && env.kindOf n == some .cell) then (n, NameKind.cell) else (n, k)).lookup x = some .cell ∨
      (names.map fun (n, k) => if (k == NameKind.free && env.scope.kind == .function && env.kindOf n == some .cell) then (n, NameKind.cell) else (n, k)).lookup x = some .free := by
    intro names
    induction names with
    | nil => intro h; simp at h
    | cons y r ih =>
      intro h
      obtain ⟨n, k'⟩ := y
      rw [List.map_cons]
      dsimp only
      rw [List.lookup_cons] at h
      by_cases hc : (k' == NameKind.free && env.scope.kind == .function && env.kindOf n == some .cell) = true
      · rw [if_pos hc]
        cases e : (x == n)
        · rw [e] at h
          simp only [List.lookup_cons, e]
          exact ih h
        · simp only [List.lookup_cons, e]
          exact .inl trivial
      · rw [if_neg hc]
        cases e : (x == n)
        · rw [e] at h
          simp only [List.lookup_cons, e]
          exact ih h
        · rw [e] at h
          simp only [List.lookup_cons, e]
          exact .inr (by simpa using h)
  exact key sc.names

section
variable {X : Cx} {pins : List (Addr × Obj)} {σ : St} {H : Hp} {s : Shared} {sc : Scope} {Nc : List Str} {ix : List (Option Nat)}

theorem Inv.lcCl (I : Inv X pins σ H s) (S : LcScope X.env.scope X.N sc Nc ix) : ∀ y ∈ sc.names, y.2 = .free → ∃ c, X.env.cells.lookup y.1 = some c := fun y hy e => I.ok.has y.1 (S.free y hy e)

theorem Inv.lcOk {C : Addr} {fp : List Addr} {pn : List (Addr × Obj)} (I : Inv X pins σ H s) (S : LcScope X.env.scope X.N sc Nc ix) (hC : s.heap.objs.size ≤ C) (hf : ∀ b ∈ fp, FpOk X pins H b) (hfs : ∀ b ∈ fp, b < s.heap.objs.size) :
    (cxLc X sc Nc C s H fp pn).Ok := by
  have hcl := I.lcCl S
  have sub : ∀ x c, (clos X.env.cells sc.names []).lookup x = some c → X.env.cells.lookup x = some c := fun x c h => clos_sub hcl (fun _ _ z => by simp at z) h
  refine ⟨I.ok.mod, S.kind, I.ok.glob, I.ok.blt, hC, fun x y c h1 h2 => I.ok.inj x y c (sub _ _ h1) (sub _ _ h2), fun x hx => ?_, fun x c h => (by cases h), I.ok.hd, I.ok.frames, .inl rfl, fun b hb => ⟨?_, fun x c e => (hf b hb).2.2.2.2.1 x c (sub x c e)⟩,
    I.bs, Nat.le_trans I.ok.bsz I.sz, fun b o e hb => ?_, fun b hb hm => ?_, I.stack, I.stkFree⟩
  · exact clos_has (.inl (lookup_relabel hx S.nocell))
  · exact Nat.ne_of_lt (Nat.lt_of_lt_of_le (hfs b hb) hC)
  · rcases (hf b hb).2.2.2.1 with z | z
    · exact I.ok.noex b o e z
    · exact absurd (Nat.lt_of_lt_of_le (Heap.lt_size e) (Nat.le_trans I.ok.bsz z)) (Nat.lt_irrefl _)
  · rcases List.mem_cons.mp (I.stkSub b hm) with z | z
    · exact (hf b hb).2.1 z
    · exact (hf b hb).2.2.1 z

theorem lcσ_get {N : List Str} {up : Scope} (S : LcScope up N sc Nc ix) {i : Nat} {x : Str} {v : V} (h1 : Nc[i]? = some x) (h2 : (lcσ ix σ)[i]? = some (some v)) :
    ∃ j : Nat, N[j]? = some x ∧ σ[j]? = some (some v) ∧ (up.names.lookup x = some .cell ∨ up.names.lookup x = some .free) ∧ (x, NameKind.free) ∈ sc.names ∧ sc.names.lookup x = some .free := by
  unfold lcσ at h2
  rw [List.getElem?_map] at h2
  cases e : ix[i]? with
  | none => rw [e] at h2; cases h2
  | some o =>
    rw [e] at h2
    cases o with
    | none => simp at h2
    | some j =>
      have hm : (x, some j) ∈ Nc.zip ix := by
        refine List.mem_of_getElem? (i := i) ?_
        rw [List.getElem?_zip_eq_some]
        exact ⟨h1, e⟩
      have q := S.map _ hm
      simp only [Bool.and_eq_true, decide_eq_true_eq] at q
      obtain ⟨⟨⟨q1, q2⟩, q3⟩, q4⟩ := q
      refine ⟨j, q1, ?_, q2, q3, q4⟩
      have h2 : (σ[j]?).join = some v := by simpa using h2
      cases z : σ[j]? with
      | none => rw [z] at h2; cases h2
      | some u =>
        rw [z] at h2
        have h2 : u = some v := h2
        rw [h2]

/-- the block begins -/
theorem Inv.lcStart {fp : List Addr} {h₁ : Heap} {tk : Nat} (I : Inv X pins σ H s) (S : LcScope X.env.scope X.N sc Nc ix) (hf : ∀ b ∈ fp, FpOk X pins H b) (hfs : ∀ b ∈ fp, b < s.heap.objs.size)
    (hns : ∃ m, h₁.Ns s.heap.objs.size m) (hk : ∀ b o, s.heap.get? b = some o → h₁.get? b = some o) :
    Inv (cxLc X sc Nc s.heap.objs.size s H fp (X.pn ++ pins)) [] (lcσ ix σ) H { s with heap := h₁, toks := tk } := by
  have hcl := I.lcCl S
  have sub : ∀ x c, (clos X.env.cells sc.names []).lookup x = some c → X.env.cells.lookup x = some c := fun x c h => clos_sub hcl (fun _ _ z => by simp at z) h
  have cellK : ∀ c v, s.heap.IsCell c v → h₁.IsCell c v := fun c v ⟨o, ho, hd⟩ => ⟨o, hk c o ho, hd⟩
  obtain ⟨m, hn⟩ := hns
  refine ⟨I.lcOk S (Nat.le_refl _) hf hfs, rfl, I.bare, Un.kept hk, ⟨m, hn, fun i x v h1 h2 _ => ?_⟩, fun x c h => ?_, I.hok.fresh (Nat.le_refl _), fun x c h => I.freeC x c (sub x c h), fun p hp => ?_, I.hok.kept hk, ?_⟩
  · obtain ⟨j, e1, e2, e3, e4, e5⟩ := lcσ_get S h1 h2
    obtain ⟨m', hn', hl⟩ := I.loc
    obtain ⟨u, r, l⟩ := hl j x v e1 e2 (.inr e3)
    refine ⟨u, r, .inr ⟨relabel_free e5, ?_⟩⟩
    have e3' : X.env.kindOf x = some .cell ∨ X.env.kindOf x = some .free := e3
    rcases l with ⟨k, _⟩ | ⟨k, c, hc, hcell⟩
    · rw [k] at e3'
      rcases e3' with z | z <;> cases z
    · obtain ⟨c', hc'⟩ := clos_has (cells := X.env.cells) (names := sc.names) (acc := []) (.inl e4)
      have := sub x c' hc'
      rw [hc] at this
      cases this
      exact ⟨c, hc', cellK _ _ hcell⟩
  · obtain ⟨v, hv⟩ := I.cell x c (sub x c h)
    exact ⟨v, cellK _ _ hv⟩
  · have hp : p ∈ X.pn ++ pins := by
      have hp : p ∈ (X.pn ++ pins) ++ [] := hp
      rwa [List.append_nil] at hp
    obtain ⟨e, n, ne, nf, d⟩ := I.pin p hp
    refine ⟨hk _ _ e, n, Nat.ne_of_lt (Heap.lt_size e), fun hm => ?_, d⟩
    rcases List.mem_cons.mp (I.stkSub p.1 hm) with z | z
    · exact ne z
    · exact nf z
  · unfold lcσ
    rw [List.length_map]
    exact S.len

/-- the block has ended: the list at D is tracked -/
theorem Inv.lcEnd {C D : Addr} {fp : List Addr} {pn : List (Addr × Obj)} {σ' : St} {He : Hp} {se : Shared} {vs : List V} {its : List Value} {n : Nat} (I : Inv X pins σ H s) (Ie : Inv (cxLc X sc Nc C s H (D :: fp) pn) [] σ' He se)
    (hf : ∀ b ∈ D :: fp, FpOk X pins H b) (hD : He D = none) (hdat : se.heap.get? D = some { cls := .type "list", data := .seq its.toArray n }) (hv : Vals vs its) (hz : vs.length ≤ sizeLine) :
    Inv X pins σ (upd He D (.lst vs)) se := by
  have hb : Un (frs X.stack) (D :: fp) H He s.heap se.heap := Ie.base
  have hDn : H D = none := (hf D List.mem_cons_self).1
  have un : Un (frs X.stack) (D :: fp) H (upd He D (.lst vs)) s.heap se.heap := by
    have ne : ∀ b, b ∉ D :: fp → b ≠ D := fun b h z => h (z ▸ List.mem_cons_self)
    have neS : ∀ b u, H b = some u → b ≠ D := fun b u e z => by subst z; rw [hDn] at e; cases e
    exact ⟨hb.keep, hb.slot, fun b o q n hx => by rw [upd_ne (ne b hx)]; exact hb.free b o q n hx, hb.there, fun b xs q => by rw [upd_ne (neS b _ q)]; exact hb.tups b xs q, fun b o u q => by rw [upd_ne (neS b _ q)]; exact hb.frzs b o u q,
      fun b ps q => by rw [upd_ne (neS b _ q)]; exact hb.tbls b ps q⟩
  have hok : HOk X.prog X.w (upd He D (.lst vs)) se.heap := fun b u e => by
    by_cases h : b = D
    · subst h
      rw [upd_same] at e
      cases e
      exact ⟨hz, its, n, hv, hdat⟩
    · rw [upd_ne h] at e
      refine (Ie.hok b u e).stay (fun _ _ _ q => q) (fun c q => ?_) fun c xs q => ?_
      · rw [upd_ne (by intro z; subst z; rw [hD] at q; cases q)]; exact q
      · rw [upd_ne (by intro z; subst z; rw [hD] at q; cases q)]; exact q
  exact I.call' Ie.os un hok Ie.bare fun b hb => ⟨(hf b hb).2.2.2.1, (hf b hb).2.1, (hf b hb).2.2.2.2.1, (hf b hb).2.2.2.2.2⟩
end

/-- the tests of a clause -/
def PIfs (X : Cx) (ifs : List Expr) (tt : TT) : Prop :=
  ∀ (pins : List (Addr × Obj)) (s : Shared) (σ : St) (H : Hp) (Q : Bool → Hp → Prop), Inv X pins σ H s → tt σ H Q →
    wpAny (model X.prog X.w) X.A (forIn ifs true fun c r => if r = true then do let ok ← isTrue c X.env (eval c X.env); pure (ForInStep.yield ok) else pure (ForInStep.yield r)) (TP X pins σ Q) X.xe s
def tYes : TT := fun _ H Q => Q true H
theorem pifs_nil {X : Cx} : PIfs X [] tYes := fun _ _ _ H _ I h => wpAny_pure ⟨H, I, h⟩
theorem pifs_one {X : Cx} {c : Expr} {t : TT} (h : PT X c t) : PIfs X [c] t := by
  intro pins s σ H Q I hw
  rw [List.forIn_cons]
  simp only [if_true]
  refine wpAny_bind (wpAny_bind (thn (h pins s σ H Q I hw) fun b s1 q => ?_))
  exact wpAny_pure (wpAny_pure q)

/-- [te for g in wi if tt] -/
def tLc (ix : List (Option Nat)) (wi : TI) (g : TG) (tt : TT) (te : TE) : TE := fun σ H Q => wi σ H fun J H1 => ∃ W : Nat → Nat → List V → Hp → Prop, (∃ m, W 0 m [] H1) ∧ ∀ i m ys H, W i m ys H → ys.length < sizeLine ∧
  ((J.stop i H ∧ ∀ p, H p = none → Q (.ref p) (upd H p (.lst ys))) ∨ (J.go i H ∧ ∀ x H', J.yld i H x H' → g x (lcσ ix σ) H' fun σ2 H2 => Keep (lcσ ix σ) σ2 ∧ tt σ2 H2 fun b H3 =>
    if b = true then te σ2 H3 fun y H4 => ∃ m', m' < m ∧ W (i + 1) m' (ys ++ [y]) H4 else ∃ m', m' < m ∧ W (i + 1) m' ys H3))

section
variable {X : Cx} {sc : Scope} {Nc : List Str} {ix : List (Option Nat)} {elt tg iter : Expr} {ifs : List Expr} {wi : TI} {g : TG} {tt : TT} {te : TE} {pos : Pos}

/-- the block, from the iterator on -/
theorem lc_block {pins : List (Addr × Obj)} {σ : St} {s₂ : Shared} {it : Addr} {fp : List Addr} {tn : Nat → Heap → Prop} {J : It} {H2 : Hp} {RR : Value → Addr → Result → Shared → Prop} {E : Value → Shared → Prop}
    (hc : X.calm = true) (S : LcScope X.env.scope X.N sc Nc ix) (hg : ∀ C s H ex pn, PG (cxLc X sc Nc C s H ex pn) tg g) (hif : ∀ C s H ex pn, PIfs (cxLc X sc Nc C s H ex pn) ifs tt) (he : ∀ C s H ex pn, PE (cxLc X sc Nc C s H ex pn) elt te)
    (I : Inv X pins σ H2 s₂) (T : Turn X.prog X.w X.K tg J fp it tn) (st : tn 0 s₂.heap) (hf : ∀ b ∈ fp, FpOk X pins H2 b)
    (W : Nat → Nat → List V → Hp → Prop) (h0 : ∃ m, W 0 m [] H2) (Qe : List V → Hp → Prop)
    (turn : ∀ i m ys H, W i m ys H → ys.length < sizeLine ∧ ((J.stop i H ∧ Qe ys H) ∨ (J.go i H ∧ ∀ x H', J.yld i H x H' → g x (lcσ ix σ) H' fun σ2 H2 => Keep (lcσ ix σ) σ2 ∧ tt σ2 H2 fun b H3 =>
      if b = true then te σ2 H3 fun y H4 => ∃ m', m' < m ∧ W (i + 1) m' (ys ++ [y]) H4 else ∃ m', m' < m ∧ W (i + 1) m' ys H3)))
    (hRR : ∀ (D C : Addr) (ys : List V) (He : Hp) (se : Shared), Inv X pins σ (upd He D (.lst ys)) se → He D = none → FpOk X pins (upd He D (.lst ys)) C → (∃ m, se.heap.Ns C m) → C ≠ D → Qe ys He → RR (.ref D) C (.ok .next) se) :
    wpAny (model X.prog X.w) X.A (newList []) (fun acc s₃ => wpAny (model X.prog X.w) X.A (newFunctionEnv sc X.env.globals (clos X.env.cells sc.names []) [] X.env.qual none .none (some X.env)) (fun cenv s₄ =>
      codeAny (model X.prog X.w) X.A (.compStart (.ListComp elt [⟨tg, iter, ifs, 0⟩] sc pos) 0 (.ref it) acc { cenv with scope := relabel sc X.env }) (RR acc cenv.locals) s₄) E s₃) E s₂ := by
  refine wpAny_newObj_type (wpAny_newFunctionEnv S.nocell (by intro y hy; simp at hy) (fun h₁ hns₁ hsb₁ => ?_) S.kind)
  dsimp only at hns₁ hsb₁ ⊢
  generalize hH2 : s₂.heap.push { cls := .type "list", dict := none, data := .seq ([] : List Value).toArray } = h3 at hns₁ hsb₁ ⊢
  have hC : h3.objs.size = s₂.heap.objs.size + 1 := by rw [← hH2, Heap.size_push]
  have k3 : ∀ b o, s₂.heap.get? b = some o → h3.get? b = some o := fun b o e => hH2 ▸ Heap.get?_push_of_some _ e
  have gD : h3.get? s₂.heap.objs.size = some { cls := .type "list", dict := none, data := .seq ([] : List Value).toArray } := by rw [← hH2]; exact Heap.get?_push_size _ rfl
  have I3 : Inv X pins σ H2 { s₂ with heap := h3 } := I.kept (t' := s₂.toks) k3
  have nD : H2 s₂.heap.objs.size = none := I.hok.fresh (Nat.le_refl _)
  have fD : FpOk X pins H2 s₂.heap.objs.size := I.fpOk (Nat.le_refl _) nD
  have fpsz : ∀ b ∈ fp, b < s₂.heap.objs.size := fun b hb => by
    obtain ⟨o, e, _⟩ := T.obj 0 _ st b hb
    exact Heap.lt_size e
  have fAll : ∀ b ∈ s₂.heap.objs.size :: fp, FpOk X pins H2 b := fun b hb => by
    rcases List.mem_cons.mp hb with e | hb
    · subst e; exact fD
    · exact hf b hb
  have k1 : ∀ b o, h3.get? b = some o → h₁.get? b = some o := fun b o e => hsb₁.extBut b o (Nat.ne_of_lt (Heap.lt_size e)) (Heap.get?_push_of_some _ e)
  have I4 : Inv (cxLc X sc Nc h3.objs.size { s₂ with heap := h3 } H2 (s₂.heap.objs.size :: fp) (X.pn ++ pins)) [] (lcσ ix σ) H2 { s₂ with heap := h₁, toks := s₂.toks + ([] : List (Str × Value)).length } :=
    I3.lcStart S fAll (fun b hb => by
      show b < h3.objs.size
      rw [hC]
      rcases List.mem_cons.mp hb with e | hb
      · rw [e]; exact Nat.lt_succ_self _
      · exact Nat.lt_succ_of_lt (fpsz b hb)) ⟨_, hns₁⟩ k1
  generalize hXc : cxLc X sc Nc h3.objs.size { s₂ with heap := h3 } H2 (s₂.heap.objs.size :: fp) (X.pn ++ pins) = Xc at I4
  have eE : Xc.env = compEnvC sc (clos X.env.cells sc.names []) h3.objs.size X.env := by rw [← hXc]
  have eP : Xc.prog = X.prog := by rw [← hXc]
  have eW : Xc.w = X.w := by rw [← hXc]
  have eK : Xc.K = X.K := by rw [← hXc]
  have eA : Xc.A = X.A := by rw [← hXc]
  have eC : Xc.calm = true := by rw [← hXc]; exact hc
  have eX : Xc.xe = fun _ _ => False := by rw [← hXc]
  have hg' : PG Xc tg g := by rw [← hXc]; exact hg _ _ _ _ _
  have hif' : PIfs Xc ifs tt := by rw [← hXc]; exact hif _ _ _ _ _
  have he' : PE Xc elt te := by rw [← hXc]; exact he _ _ _ _ _
  have eF : Xc.fs = frs X.stack := by rw [← hXc]
  have eEx : Xc.ex = s₂.heap.objs.size :: fp := by rw [← hXc]
  have ePn : Xc.pn = X.pn ++ pins := by rw [← hXc]
  have hcl := I.lcCl S
  have sub : ∀ x c, (clos X.env.cells sc.names []).lookup x = some c → X.env.cells.lookup x = some c := fun x c h => clos_sub hcl (fun _ _ z => by simp at z) h
  have szAll : ∀ b ∈ s₂.heap.objs.size :: fp, b ≠ h3.objs.size := fun b hb => by
    rw [hC]
    rcases List.mem_cons.mp hb with e | hb
    · rw [e]; exact Nat.ne_of_lt (Nat.lt_succ_self _)
    · exact Nat.ne_of_lt (Nat.lt_succ_of_lt (fpsz b hb))
  have fpD : ∀ b ∈ fp, s₂.heap.objs.size ≠ b := fun b hb => Nat.ne_of_gt (fpsz b hb)
  have stat : ∀ {H' : Hp} {pp : List (Addr × Obj)}, ∀ b ∈ s₂.heap.objs.size :: fp, H' b = none → (∀ p ∈ pp, p.1 ≠ b) → FpOk Xc pp H' b := fun {H' pp} b hb hn hpp => by
    refine ⟨hn, ?_, ?_, .inl (by rw [eEx]; exact hb), ?_, ?_⟩
    · rw [eE]; exact szAll b hb
    · rw [eF]
      intro hm
      rcases List.mem_cons.mp (I.stkSub b hm) with z | z
      · exact (fAll b hb).2.1 z
      · exact (fAll b hb).2.2.1 z
    · rw [eE]
      intro x c e
      exact (fAll b hb).2.2.2.2.1 x c (sub x c e)
    · rw [ePn]
      intro p hp
      rcases List.mem_append.mp hp with hp | hp
      · exact (fAll b hb).2.2.2.2.2 p hp
      · exact hpp p hp
  obtain ⟨m0, w0⟩ := h0
  have loop : ∀ s₃ : Shared, s₃ = { s₂ with heap := h₁, toks := s₂.toks + ([] : List (Str × Value)).length } →
      codeAny (model X.prog X.w) X.A (.compLoop (.ListComp elt [⟨tg, iter, ifs, 0⟩] sc pos) 0 (.ref it) (.ref s₂.heap.objs.size) (compEnvC sc (clos X.env.cells sc.names []) h3.objs.size X.env)) (RR (.ref s₂.heap.objs.size) h3.objs.size) s₃ := by
    rintro s₃ rfl
    refine codeAny_loop rfl (fun n s' => ∃ i H' vs its k, Inv Xc [] (lcσ ix σ) H' s' ∧ tn i s'.heap ∧ (∀ b ∈ s₂.heap.objs.size :: fp, H' b = none) ∧ s'.heap.get? s₂.heap.objs.size = some { cls := .type "list", data := .seq its.toArray k } ∧ Vals vs its ∧ W i n vs H') ?_ m0
      ⟨0, H2, [], [], _, I4, T.keep _ _ _ st fun b hb o e => k1 b o (k3 b o e), fun b hb => (fAll b hb).1, k1 _ _ gD, .nil, w0⟩
    rintro n s5 ⟨i, H5, vs, its, k, I5, st5, fr5, hd5, rv5, w5⟩
    show wpAny _ _ ((compTurn (.ListComp elt [⟨tg, iter, ifs, 0⟩] sc pos) 0 (.ref it) (.ref s₂.heap.objs.size) (compEnvC sc (clos X.env.cells sc.names []) h3.objs.size X.env)).onRaise (fun x => do noteFrame x (compEnvC sc (clos X.env.cells sc.names []) h3.objs.size X.env); theTreesLotGoes x)) _ _ s5
    refine wpAny_noted ?_
    rw [compTurn_list]
    refine wpAny_bind (wpAny_standAt (wpAny_bind ?_))
    obtain ⟨hsz, hturn⟩ := turn i n vs H5 w5
    have pD : ∀ {H' : Hp} {sx : Shared} {σx : St} {o : Obj}, Inv Xc [] σx H' sx → H' s₂.heap.objs.size = none → sx.heap.get? s₂.heap.objs.size = some o → (∀ v, o.data ≠ .cell v) → Inv Xc [(s₂.heap.objs.size, o)] σx H' sx := fun {H' sx σx o} Ix hn ho hd =>
      Ix.pins_of fun p hp => by
        have e : p = (s₂.heap.objs.size, o) := by simpa using hp
        subst e
        have q : FpOk Xc [] H' s₂.heap.objs.size := stat _ List.mem_cons_self hn (fun p hp => by simp at hp)
        exact ⟨ho, hn, q.2.1, q.2.2.1, hd⟩
    have f5 : ∀ {H' : Hp} {o : Obj}, (∀ b ∈ fp, H' b = none) → ∀ b ∈ fp, FpOk Xc [(s₂.heap.objs.size, o)] H' b := fun {H' o} fr b hb => stat b (List.mem_cons_of_mem _ hb) (fr b hb) (fun p hp => by
      have e : p = (s₂.heap.objs.size, o) := by simpa using hp
      subst e
      exact fpD b hb)
    have I5p := pD I5 (fr5 _ List.mem_cons_self) hd5 (fun v z => by cases z)
    have fr5' : ∀ b ∈ fp, H5 b = none := fun b hb => fr5 b (List.mem_cons_of_mem _ hb)
    rcases hturn with ⟨stop, qe⟩ | ⟨go, step⟩
    · have q := T.done Xc eP eW eK eC i _ s5 (lcσ ix σ) H5 (fun _ _ => False) I5p (f5 fr5') st5 stop
      rw [eA] at q
      refine wpAny_mono q (fun r s6 ⟨hr, I6⟩ => ?_) fun _ _ z => z.elim
      subst hr
      refine wpAny_pure ?_
      have hD6 := I6.pin (s₂.heap.objs.size, _) (List.mem_append_right _ List.mem_cons_self)
      have I6' : Inv (cxLc X sc Nc h3.objs.size { s₂ with heap := h3 } H2 (s₂.heap.objs.size :: fp) (X.pn ++ pins)) [] (lcσ ix σ) H5 s6 := by rw [hXc]; exact I6.pins_of (fun p hp => by simp at hp)
      have Ie := I3.lcEnd (vs := vs) (its := its) I6' fAll hD6.2.1 hD6.1 rv5 (Nat.le_of_lt hsz)
      have fr6 : H5 h3.objs.size = none := I6'.free
      have neC : h3.objs.size ≠ s₂.heap.objs.size := Ne.symm (szAll _ List.mem_cons_self)
      obtain ⟨m6, hn6, _⟩ := I6'.loc
      refine hRR _ _ vs H5 s6 Ie hD6.2.1 (I3.fpOk (Nat.le_refl _) ?_) ⟨m6, hn6⟩ neC qe
      rw [upd_ne neC]; exact fr6
    · have q := T.item Xc eP eW eK eC i _ s5 (lcσ ix σ) H5 (fun _ _ => False) I5p (f5 fr5') st5 go
      rw [eA] at q
      refine wpAny_mono q (fun r s6 ⟨u, hr, h6⟩ => ?_) fun _ _ z => z.elim
      subst hr
      refine wpAny_bind (wpAny_mono h6 (fun _ s7 ⟨x, H7, I7, r7, y7, st7, fr7⟩ => ?_) fun _ _ z => z.elim)
      have I7' := I7.pinned (f5 fr7) (T.obj _ _ st7)
      have q8 := hg' _ s7 (lcσ ix σ) H7 x u _ I7' r7 (step x H7 y7)
      rw [eP, eW, eA, eE, eX] at q8
      refine wpAny_bind (wpAny_mono q8 (fun _ s8 ⟨σ8, H8, I8, q8⟩ => ?_) fun _ _ z => z.elim)
      obtain ⟨kp, q8⟩ := q8
      have q9 := hif' _ s8 σ8 H8 _ I8 q8
      rw [eP, eW, eA, eE, eX] at q9
      refine wpAny_bind (wpAny_mono q9 (fun b s9 ⟨H9, I9, q9⟩ => ?_) fun _ _ z => z.elim)
      -- what the pins say behind a step
      have back : ∀ {H' : Hp} {sx : Shared}, Inv Xc ([(s₂.heap.objs.size, ({ cls := .type "list", data := .seq its.toArray k } : Obj))] ++ pinsAt fp s7.heap) σ8 H' sx →
          Inv Xc [] (lcσ ix σ) H' sx ∧ tn (i + 1) sx.heap ∧ (∀ b ∈ s₂.heap.objs.size :: fp, H' b = none) ∧ sx.heap.get? s₂.heap.objs.size = some { cls := .type "list", data := .seq its.toArray k } := fun {H' sx} Ix => by
        have pd := Ix.pin (s₂.heap.objs.size, _) (List.mem_append_right _ List.mem_cons_self)
        refine ⟨(Ix.pins_of (pins' := []) (fun p hp => by simp at hp)).weak kp.1 kp.2, T.keep _ _ _ st7 fun b hb o e => (Ix.pin (b, o) (List.mem_append_right _ (List.mem_append_right _ (mem_pinsAt hb e)))).1, fun b hb => ?_, pd.1⟩
        rcases List.mem_cons.mp hb with e | hb
        · rw [e]; exact pd.2.1
        · obtain ⟨o, e, d⟩ := T.obj _ _ st7 b hb
          exact (Ix.pin (b, o) (List.mem_append_right _ (List.mem_append_right _ (mem_pinsAt hb e)))).2.1
      cases b with
      | false =>
        obtain ⟨m', hm, w9⟩ := (by simpa using q9 : ∃ m', m' < n ∧ W (i + 1) m' vs H9)
        obtain ⟨a1, a2, a3, a4⟩ := back I9
        exact wpAny_pure ⟨rfl, m', hm, i + 1, H9, vs, its, k, a1, a2, a3, a4, rv5, w9⟩
      | true =>
        have q9 : te σ8 H9 fun y H4 => ∃ m', m' < n ∧ W (i + 1) m' (vs ++ [y]) H4 := by simpa using q9
        have q10 := he' _ s9 σ8 H9 _ I9 q9
        rw [eP, eW, eA, eE, eX] at q10
        refine wpAny_bind (wpAny_bind (wpAny_mono q10 (fun y s10 ⟨v10, H10, I10, r10, q10⟩ => ?_) fun _ _ z => z.elim))
        obtain ⟨m', hm, w10⟩ := q10
        obtain ⟨a1, a2, a3, a4⟩ := back I10
        refine wpAny_bind (wpAny_list_append_plain (l := s₂.heap.objs.size) (items := its.toArray) ⟨k, a4⟩ (fun h' hp hsb => ?_) (by rw [List.size_toArray, ← rv5.length]; exact Nat.le_of_lt hsz))
        have fd : FpOk Xc [] H10 s₂.heap.objs.size := stat _ List.mem_cons_self (a3 _ List.mem_cons_self) (fun p hp => by simp at hp)
        have I11 : Inv Xc [] (lcσ ix σ) H10 { s10 with heap := h' } := a1.turned (t' := s10.toks) (it := s₂.heap.objs.size) (fun b o hb e => (hsb.2 b hb).trans e) fd.1 fd.2.1 fd.2.2.2.1 fd.2.2.2.2.1 fd.2.2.2.2.2
        obtain ⟨k', hp⟩ := hp
        refine wpAny_pure (wpAny_pure ⟨rfl, m', hm, i + 1, H10, vs ++ [v10], its ++ [y], k', I11, T.keep _ _ _ a2 fun b hb o e => (hsb.2 b (Ne.symm (fpD b hb))).trans e, a3, ?_, rv5.append (.cons r10 .nil), w10⟩)
        rw [List.push_toArray] at hp
        exact hp
  exact codeAny_compStart_list (loop _ rfl) (T.self _ 0 _ _ _ (T.keep _ _ _ st fun b hb o e => k1 b o (k3 b o e)) (loop _ rfl))

theorem Inv.letGo {pins : List (Addr × Obj)} {σ : St} {H : Hp} {s : Shared} {C : Addr} {h' : Heap} (I : Inv X pins σ H s) (f : FpOk X pins H C) (hs : Heap.SameBut C s.heap h') : Inv X pins σ H { s with heap := h' } :=
  I.turned (t' := s.toks) (fun b o hb e => (hs.2 b hb).trans e) f.1 f.2.1 f.2.2.2.1 f.2.2.2.2.1 f.2.2.2.2.2

/-- [elt for tg in iter if ..], as a value -/
theorem pe_lc (hc : X.calm = true) (S : LcScope X.env.scope X.N sc Nc ix) (hi : PI X tg iter wi) (hg : ∀ C s H ex pn, PG (cxLc X sc Nc C s H ex pn) tg g) (hif : ∀ C s H ex pn, PIfs (cxLc X sc Nc C s H ex pn) ifs tt) (he : ∀ C s H ex pn, PE (cxLc X sc Nc C s H ex pn) elt te)
    (hs : ∀ x, foldedSetIterable iter X.env x = pure x := by with_unfolding_all (intro _; rfl)) : PE X (.ListComp elt [⟨tg, iter, ifs, 0⟩] sc pos) (tLc ix wi g tt te) := by
  intro pins s σ H Q I h
  rw [eval_ListComp]
  refine wpAny_comprehension_free (use := none) rfl hs (closureFor_eq (I.lcCl S)) S.kind S.loc (thn (hi pins s σ H _ I h) fun v s1 h1 => thn h1 fun itv s2 h2 => ?_)
  obtain ⟨it, fp, tn, J, H2, e, I2, T, st2, f2, W, w0, turn⟩ := h2
  subst e
  refine lc_block hc S hg hif he I2 T st2 f2 W w0 (fun ys H => ∀ p, H p = none → Q (.ref p) (upd H p (.lst ys))) turn (RR := fun acc C => compPost (model X.prog X.w) X.A X.xe none (EP X pins σ Q) acc C) ?_
  intro D C ys He se Ie hD fC hn hCD q
  obtain ⟨m, hn⟩ := hn
  exact ⟨m, hn, fun h' hs' => ⟨.ref D, _, Ie.letGo fC hs', rfl, q D hD⟩⟩

/-- x = [elt for tg in iter if ..] (the store comes ahead of the block's end) -/
theorem ps_setlc {i : Nat} {x : Str} {pos' spos : Pos} (hc : X.calm = true) (hN : X.N.Nodup) (hx : X.N[i]? = some x) (hl : X.env.scope.names.lookup x = some .local) (S : LcScope X.env.scope X.N sc Nc ix) (hi : PI X tg iter wi) (hg : ∀ C s H ex pn, PG (cxLc X sc Nc C s H ex pn) tg g)
    (hif : ∀ C s H ex pn, PIfs (cxLc X sc Nc C s H ex pn) ifs tt) (he : ∀ C s H ex pn, PE (cxLc X sc Nc C s H ex pn) elt te)
    (hsw : swapsWith (.ListComp elt [⟨tg, iter, ifs, 0⟩] sc pos) (some (.Name x pos')) spos.line X.env = pure true := by with_unfolding_all rfl)
    (hs : ∀ x, foldedSetIterable iter X.env x = pure x := by with_unfolding_all (intro _; rfl)) : PS X (.Assign [.Name x pos'] (.ListComp elt [⟨tg, iter, ifs, 0⟩] sc pos) spos) (tAsg (tLc ix wi g tt te) (gName i)) := by
  intro pins s σ H D I h
  rw [exec_Assign_Name_used _ _ _ _ hsw]
  refine wpAny_bind (wpAny_standAt (wpAny_bind ?_))
  show wpAny _ X.A (do let _ ← comprehension (.ListComp elt [⟨tg, iter, ifs, 0⟩] sc pos) sc X.env _ (newList []) false (eval iter X.env) (some (assign (.Name x pos') X.env))) _ _ s
  refine wpAny_bind (wpAny_mono (wpAny_comprehension_free (use := some (assign (.Name x pos') X.env)) (Q := fun _ s' => SP X pins D .next s') rfl hs (closureFor_eq (I.lcCl S)) S.kind S.loc
    (thn (hi pins s σ H _ I h) fun v s1 h1 => thn h1 fun itv s2 h2 => ?_)) (fun _ s' hq => wpAny_pure (wpAny_pure hq)) fun _ _ e => e)
  obtain ⟨it, fp, tn, J, H2, e, I2, T, st2, f2, W, w0, turn⟩ := h2
  subst e
  refine lc_block hc S hg hif he I2 T st2 f2 W w0 (fun ys H => ∀ p, H p = none → D.nx (σ.set i (some (.ref p))) (upd H p (.lst ys))) turn (RR := fun acc C => compPost (model X.prog X.w) X.A X.xe (some (assign (.Name x pos') X.env)) (fun _ s' => SP X pins D .next s') acc C) ?_
  intro L C ys He se Ie hD fC hn hCD q
  obtain ⟨m, hn⟩ := hn
  show wpAny _ X.A (assign (.Name x pos') X.env (.ref L)) _ _ se
  refine wpAny_assign_Name (store_ok2 (v := .ref L) Ie hN hx (.inl hl) rfl (fun s' I' ⟨a, hsb, ha⟩ => ?_) (.inr hl))
  have ne : C ≠ a := by
    rcases ha with e | e
    · rw [e]; exact fC.2.1
    · exact Ne.symm (fC.2.2.2.2.1 x a e)
  exact ⟨m, hn.sameBut hsb ne, fun h' hs' => ⟨_, _, I'.letGo fC hs', q L hD⟩⟩
end
end L2

namespace L2
open PySem PySem.Spec PyProof.Rows

/-! ### data -/
inductive D where
  | non | bl (b : Bool) | int (i : Int) | str (x : Str) | tup (ds : List D) | lst (ds : List D)
mutual
def Rep (H : Hp) : D → V → Prop
  | .non, v => v = .non
  | .bl b, v => v = .bl b
  | .int i, v => v = .int i
  | .str x, v => v = .str x
  | .tup ds, v => ∃ a vs, v = .ref a ∧ H a = some (.tup vs) ∧ Reps H ds vs
  | .lst ds, v => ∃ a vs, v = .ref a ∧ H a = some (.lst vs) ∧ Reps H ds vs
def Reps (H : Hp) : List D → List V → Prop
  | [], vs => vs = []
  | d :: ds, vs => ∃ v r, vs = v :: r ∧ Rep H d v ∧ Reps H ds r
end
mutual
theorem Rep.mono {H H' : Hp} (k : Same H H') : ∀ {d : D} {v : V}, Rep H d v → Rep H' d v
  | .non, _, h => by simpa [Rep] using h
  | .bl _, _, h => by simpa [Rep] using h
  | .int _, _, h => by simpa [Rep] using h
  | .str _, _, h => by simpa [Rep] using h
  | .tup ds, v, h => by
    rw [Rep] at h ⊢
    obtain ⟨a, vs, e, ha, r⟩ := h
    exact ⟨a, vs, e, k _ _ ha, Reps.mono k r⟩
  | .lst ds, v, h => by
    rw [Rep] at h ⊢
    obtain ⟨a, vs, e, ha, r⟩ := h
    exact ⟨a, vs, e, k _ _ ha, Reps.mono k r⟩
theorem Reps.mono {H H' : Hp} (k : Same H H') : ∀ {ds : List D} {vs : List V}, Reps H ds vs → Reps H' ds vs
  | [], vs, h => by rw [Reps] at h ⊢; exact h
  | d :: ds, vs, h => by
    rw [Reps] at h ⊢
    obtain ⟨v, r, e, h1, h2⟩ := h
    exact ⟨v, r, e, Rep.mono k h1, Reps.mono k h2⟩
end
theorem Reps.cons {H : Hp} {d : D} {ds : List D} {v : V} {vs : List V} (h : Rep H d v) (r : Reps H ds vs) : Reps H (d :: ds) (v :: vs) := by
  rw [Reps]; exact ⟨v, vs, rfl, h, r⟩
theorem Reps.nil {H : Hp} : Reps H [] [] := by rw [Reps]
theorem Reps.uncons {H : Hp} {d : D} {ds : List D} {vs : List V} (h : Reps H (d :: ds) vs) : ∃ v r, vs = v :: r ∧ Rep H d v ∧ Reps H ds r := by
  rw [Reps] at h; exact h
theorem Reps.unnil {H : Hp} {vs : List V} (h : Reps H [] vs) : vs = [] := by
  rw [Reps] at h; exact h
theorem Reps.length {H : Hp} : ∀ {ds : List D} {vs : List V}, Reps H ds vs → vs.length = ds.length
  | [], vs, h => by rw [h.unnil]; rfl
  | d :: ds, vs, h => by
    obtain ⟨v, r, rfl, _, h2⟩ := h.uncons
    simp [Reps.length h2]
theorem Reps.get {H : Hp} : ∀ {ds : List D} {vs : List V} {i : Nat} {d : D}, Reps H ds vs → ds[i]? = some d → ∃ v, vs[i]? = some v ∧ Rep H d v
  | [], _, _, _, _, e => by simp at e
  | d :: ds, vs, 0, d', h, e => by
    obtain ⟨v, r, rfl, h1, _⟩ := h.uncons
    simp at e; subst e
    exact ⟨v, rfl, h1⟩
  | d :: ds, vs, i + 1, d', h, e => by
    obtain ⟨v, r, rfl, _, h2⟩ := h.uncons
    obtain ⟨w, e1, e2⟩ := Reps.get (i := i) h2 (by simpa using e)
    exact ⟨w, by simpa using e1, e2⟩
theorem Reps.get' {H : Hp} {ds : List D} {vs : List V} {i : Nat} {v : V} (h : Reps H ds vs) (e : vs[i]? = some v) : ∃ d, ds[i]? = some d ∧ Rep H d v := by
  have hi : i < vs.length := (List.getElem?_eq_some_iff.mp e).1
  have hi' : i < ds.length := by rw [← h.length]; exact hi
  obtain ⟨w, e1, e2⟩ := h.get (List.getElem?_eq_getElem hi')
  rw [e] at e1; cases e1
  exact ⟨_, List.getElem?_eq_getElem hi', e2⟩
theorem Reps.append {H : Hp} : ∀ {ds es : List D} {vs ws : List V}, Reps H ds vs → Reps H es ws → Reps H (ds ++ es) (vs ++ ws)
  | [], _, vs, _, h, h' => by rw [h.unnil]; exact h'
  | d :: ds, es, vs, ws, h, h' => by
    obtain ⟨v, r, rfl, h1, h2⟩ := h.uncons
    exact Reps.cons h1 (Reps.append h2 h')
theorem Reps.snoc {H : Hp} {ds : List D} {vs : List V} {d : D} {v : V} (h : Reps H ds vs) (h' : Rep H d v) : Reps H (ds ++ [d]) (vs ++ [v]) := h.append (.cons h' .nil)
theorem Reps.drop {H : Hp} : ∀ {ds : List D} {vs : List V} (n : Nat), Reps H ds vs → Reps H (ds.drop n) (vs.drop n)
  | _, _, 0, h => h
  | [], vs, n + 1, h => by rw [h.unnil]; exact Reps.nil
  | d :: ds, vs, n + 1, h => by
    obtain ⟨v, r, rfl, _, h2⟩ := h.uncons
    exact Reps.drop n h2
theorem Reps.take {H : Hp} : ∀ {ds : List D} {vs : List V} (n : Nat), Reps H ds vs → Reps H (ds.take n) (vs.take n)
  | _, _, 0, h => Reps.nil
  | [], vs, n + 1, h => by rw [h.unnil]; exact Reps.nil
  | d :: ds, vs, n + 1, h => by
    obtain ⟨v, r, rfl, h1, h2⟩ := h.uncons
    exact Reps.cons h1 (Reps.take n h2)
mutual
theorem Rep.inj {H : Hp} : ∀ {d e : D} {v : V}, Rep H d v → Rep H e v → d = e
  | .non, e, v, h, h' => by
    rw [Rep] at h; subst h
    cases e <;> simp [Rep] at h' <;> rfl
  | .bl b, e, v, h, h' => by
    rw [Rep] at h; subst h
    cases e <;> simp [Rep] at h'
    rw [h']
  | .int b, e, v, h, h' => by
    rw [Rep] at h; subst h
    cases e <;> simp [Rep] at h'
    rw [h']
  | .str b, e, v, h, h' => by
    rw [Rep] at h; subst h
    cases e <;> simp [Rep] at h'
    rw [h']
  | .tup ds, e, v, h, h' => by
    rw [Rep] at h
    obtain ⟨a, vs, rfl, ha, r⟩ := h
    cases e with
    | tup es =>
      rw [Rep] at h'
      obtain ⟨a', vs', e1, ha', r'⟩ := h'
      cases e1
      rw [ha] at ha'; cases ha'
      rw [Reps.inj r r']
    | lst es =>
      rw [Rep] at h'
      obtain ⟨a', vs', e1, ha', r'⟩ := h'
      cases e1
      rw [ha] at ha'; cases ha'
    | _ => simp [Rep] at h'
  | .lst ds, e, v, h, h' => by
    rw [Rep] at h
    obtain ⟨a, vs, rfl, ha, r⟩ := h
    cases e with
    | lst es =>
      rw [Rep] at h'
      obtain ⟨a', vs', e1, ha', r'⟩ := h'
      cases e1
      rw [ha] at ha'; cases ha'
      rw [Reps.inj r r']
    | tup es =>
      rw [Rep] at h'
      obtain ⟨a', vs', e1, ha', r'⟩ := h'
      cases e1
      rw [ha] at ha'; cases ha'
    | _ => simp [Rep] at h'
theorem Reps.inj {H : Hp} : ∀ {ds es : List D} {vs : List V}, Reps H ds vs → Reps H es vs → ds = es
  | [], [], _, _, _ => rfl
  | [], e :: es, vs, h, h' => by
    rw [h.unnil] at h'
    obtain ⟨_, _, e, _⟩ := h'.uncons
    cases e
  | d :: ds, [], vs, h, h' => by
    rw [h'.unnil] at h
    obtain ⟨_, _, e, _⟩ := h.uncons
    cases e
  | d :: ds, e :: es, vs, h, h' => by
    obtain ⟨v, r, e1, h1, h2⟩ := h.uncons
    obtain ⟨v', r', e2, h1', h2'⟩ := h'.uncons
    subst e1
    cases e2
    rw [Rep.inj h1 h1', Reps.inj h2 h2']
end
theorem Rep.tup_of {H : Hp} {ds : List D} {v : V} (h : Rep H (.tup ds) v) : ∃ a vs, v = .ref a ∧ H a = some (.tup vs) ∧ Reps H ds vs := by rw [Rep] at h; exact h
theorem Rep.lst_of {H : Hp} {ds : List D} {v : V} (h : Rep H (.lst ds) v) : ∃ a vs, v = .ref a ∧ H a = some (.lst vs) ∧ Reps H ds vs := by rw [Rep] at h; exact h
theorem Rep.tup {H : Hp} {ds : List D} {a : Addr} {vs : List V} (h : H a = some (.tup vs)) (r : Reps H ds vs) : Rep H (.tup ds) (.ref a) := by rw [Rep]; exact ⟨a, vs, rfl, h, r⟩
theorem Rep.lst {H : Hp} {ds : List D} {a : Addr} {vs : List V} (h : H a = some (.lst vs)) (r : Reps H ds vs) : Rep H (.lst ds) (.ref a) := by rw [Rep]; exact ⟨a, vs, rfl, h, r⟩
theorem Rep.int {H : Hp} {i : Int} : Rep H (.int i) (.int i) := by rw [Rep]
theorem Rep.non {H : Hp} : Rep H .non .non := by rw [Rep]
theorem Rep.bl {H : Hp} {b : Bool} : Rep H (.bl b) (.bl b) := by rw [Rep]
theorem Rep.str {H : Hp} {x : Str} : Rep H (.str x) (.str x) := by rw [Rep]
theorem Rep.int_of {H : Hp} {i : Int} {v : V} (h : Rep H (.int i) v) : v = .int i := by rw [Rep] at h; exact h
theorem Rep.non_of {H : Hp} {v : V} (h : Rep H .non v) : v = .non := by rw [Rep] at h; exact h
theorem Rep.bl_of {H : Hp} {b : Bool} {v : V} (h : Rep H (.bl b) v) : v = .bl b := by rw [Rep] at h; exact h
theorem Rep.str_of {H : Hp} {b : Str} {v : V} (h : Rep H (.str b) v) : v = .str b := by rw [Rep] at h; exact h
theorem Reps.ints {H : Hp} : ∀ (ns : List Int), Reps H (ns.map D.int) (ns.map V.int)
  | [] => Reps.nil
  | n :: ns => Reps.cons Rep.int (Reps.ints ns)
theorem Reps.ints_of {H : Hp} : ∀ {ns : List Int} {vs : List V}, Reps H (ns.map D.int) vs → vs = ns.map V.int
  | [], vs, h => h.unnil
  | n :: ns, vs, h => by
    obtain ⟨v, r, rfl, h1, h2⟩ := Reps.uncons (d := D.int n) (ds := ns.map D.int) h
    rw [h1.int_of, Reps.ints_of h2]
    rfl

/-! ### a new object keeps what is there -/
theorem same_upd {H : Hp} {p : Addr} {o : HO} (h : H p = none) : Same H (upd H p o) := fun b u e => by rw [upd_ne (ne_of_none e h)]; exact e

/-! ### == of data -/
mutual
def eqD : D → D → Bool
  | .non, .non => true
  | .bl a, .bl b => a == b
  | .bl a, .int b => (if a then 1 else 0) == b
  | .int a, .bl b => a == (if b then 1 else 0)
  | .int a, .int b => a == b
  | .str a, .str b => a == b
  | .tup xs, .tup ys => eqDs xs ys
  | .lst xs, .lst ys => eqDs xs ys
  | _, _ => false
def eqDs : List D → List D → Bool
  | [], [] => true
  | x :: xs, y :: ys => eqD x y && eqDs xs ys
  | _, _ => false
end
mutual
theorem eqD_self : ∀ d : D, eqD d d = true
  | .non => by simp [eqD]
  | .bl _ => by simp [eqD]
  | .int _ => by simp [eqD]
  | .str _ => by simp [eqD]
  | .tup xs => by rw [eqD]; exact eqDs_self xs
  | .lst xs => by rw [eqD]; exact eqDs_self xs
theorem eqDs_self : ∀ xs : List D, eqDs xs xs = true
  | [] => by simp [eqDs]
  | x :: xs => by rw [eqDs, eqD_self x, eqDs_self xs]; rfl
end
mutual
def dep : D → Nat
  | .tup xs => deps xs + 1
  | .lst xs => deps xs + 1
  | _ => 0
def deps : List D → Nat
  | [] => 0
  | x :: xs => max (dep x) (deps xs)
end
theorem deps_get : ∀ {xs : List D} {i : Nat} {d : D}, xs[i]? = some d → dep d ≤ deps xs
  | [], _, _, e => by simp at e
  | x :: xs, 0, d, e => by simp at e; subst e; rw [deps]; exact Nat.le_max_left _ _
  | x :: xs, i + 1, d, e => by
    have := deps_get (i := i) (xs := xs) (d := d) (by simpa using e)
    rw [deps]
    exact Nat.le_trans this (Nat.le_max_right _ _)
theorem eqDs_len : ∀ {xs ys : List D}, xs.length ≠ ys.length → eqDs xs ys = false
  | [], [], h => absurd rfl h
  | [], y :: ys, _ => by simp [eqDs]
  | x :: xs, [], _ => by simp [eqDs]
  | x :: xs, y :: ys, h => by
    rw [eqDs, eqDs_len (xs := xs) (ys := ys) (fun e => h (by simp [e]))]
    simp
theorem eqDs_all : ∀ {xs ys : List D}, xs.length = ys.length → eqDs xs ys = (List.range xs.length).all fun i => eqD (xs.getD i .non) (ys.getD i .non)
  | [], [], _ => by simp [eqDs]
  | [], y :: ys, h => by simp at h
  | x :: xs, [], h => by simp at h
  | x :: xs, y :: ys, h => by
    rw [eqDs, eqDs_all (xs := xs) (ys := ys) (by simpa using h), List.length_cons, List.range_succ_eq_map, List.all_cons, List.all_map]
    rfl

section
variable {X : Cx} {pins : List (Addr × Obj)} {σ : St} {H : Hp} {s : Shared}
/-- flat data are flat values -/
theorem eqAt_flat {A : Around} {d e : D} {x y : V} {u v : Value} (hd : Rep H d x) (he : Rep H e y) (ru : RelV x u) (rv : RelV y v) (fx : flatV x = true) (fy : flatV y = true) : SeqAt.EqAt A s u v (eqD d e) := by
  have q := eqAt_V (A := A) (s := s) ru rv fx fy
  have e1 : eqV x y = eqD d e := by
    cases d <;> simp only [Rep] at hd
    all_goals first | (subst hd) | (obtain ⟨_, _, hd, _⟩ := hd; rw [hd] at fx; cases fx)
    all_goals (cases e <;> simp only [Rep] at he)
    all_goals first | (subst he; simp [eqV, eqD]) | (obtain ⟨_, _, he, _⟩ := he; rw [he] at fy; cases fy)
  rw [← e1]; exact q

theorem eqAt_D (I : Inv X pins σ H s) : ∀ (n : Nat) {A : Around} {d e : D} {x y : V} {u v : Value}, dep d ≤ n → A.units + n < cLine → Rep H d x → Rep H e y → RelV x u → RelV y v → SeqAt.EqAt A s u v (eqD d e) := by
  intro n
  induction n with
  | zero =>
    intro A d e x y u v hdp hu hd he ru rv
    cases d with
    | tup xs => simp [dep] at hdp
    | lst xs => simp [dep] at hdp
    | non =>
      cases e with
      | tup ys => obtain ⟨b, ws, rfl, hb, _⟩ := he.tup_of; rw [hd.non_of] at ru; cases ru; cases rv; obtain ⟨_, _, p, _⟩ := I.tuple (SqT.of hb); simp only [eqD]; exact SeqAt.EqAt.none_tuple p (by omega)
      | lst ys => obtain ⟨b, ws, rfl, hb, _⟩ := he.lst_of; rw [hd.non_of] at ru; cases ru; cases rv; obtain ⟨_, _, p, _⟩ := I.list (SqL.of hb); simp only [eqD]; exact SeqAt.EqAt.none_list p.isList (by omega)
      | non => exact eqAt_flat hd he ru rv (by rw [hd.non_of]; rfl) (by rw [he.non_of]; rfl)
      | bl _ => exact eqAt_flat hd he ru rv (by rw [hd.non_of]; rfl) (by rw [he.bl_of]; rfl)
      | int _ => exact eqAt_flat hd he ru rv (by rw [hd.non_of]; rfl) (by rw [he.int_of]; rfl)
      | str _ => exact eqAt_flat hd he ru rv (by rw [hd.non_of]; rfl) (by rw [he.str_of]; rfl)
    | bl a =>
      cases e with
      | tup ys => obtain ⟨b, ws, rfl, hb, _⟩ := he.tup_of; rw [hd.bl_of] at ru; cases ru; cases rv; obtain ⟨_, _, p, _⟩ := I.tuple (SqT.of hb); simp only [eqD]; exact SeqAt.EqAt.bool_tuple a p (by omega)
      | lst ys => obtain ⟨b, ws, rfl, hb, _⟩ := he.lst_of; rw [hd.bl_of] at ru; cases ru; cases rv; obtain ⟨_, _, p, _⟩ := I.list (SqL.of hb); simp only [eqD]; exact SeqAt.EqAt.bool_list a p.isList (by omega)
      | non => exact eqAt_flat hd he ru rv (by rw [hd.bl_of]; rfl) (by rw [he.non_of]; rfl)
      | bl _ => exact eqAt_flat hd he ru rv (by rw [hd.bl_of]; rfl) (by rw [he.bl_of]; rfl)
      | int _ => exact eqAt_flat hd he ru rv (by rw [hd.bl_of]; rfl) (by rw [he.int_of]; rfl)
      | str _ => exact eqAt_flat hd he ru rv (by rw [hd.bl_of]; rfl) (by rw [he.str_of]; rfl)
    | int a =>
      cases e with
      | tup ys => obtain ⟨b, ws, rfl, hb, _⟩ := he.tup_of; rw [hd.int_of] at ru; obtain ⟨t, rfl⟩ := ru; cases rv; obtain ⟨_, _, p, _⟩ := I.tuple (SqT.of hb); simp only [eqD]; exact SeqAt.EqAt.int_tuple a t p (by omega)
      | lst ys => obtain ⟨b, ws, rfl, hb, _⟩ := he.lst_of; rw [hd.int_of] at ru; obtain ⟨t, rfl⟩ := ru; cases rv; obtain ⟨_, _, p, _⟩ := I.list (SqL.of hb); simp only [eqD]; exact SeqAt.EqAt.int_list a t p.isList (by omega)
      | non => exact eqAt_flat hd he ru rv (by rw [hd.int_of]; rfl) (by rw [he.non_of]; rfl)
      | bl _ => exact eqAt_flat hd he ru rv (by rw [hd.int_of]; rfl) (by rw [he.bl_of]; rfl)
      | int _ => exact eqAt_flat hd he ru rv (by rw [hd.int_of]; rfl) (by rw [he.int_of]; rfl)
      | str _ => exact eqAt_flat hd he ru rv (by rw [hd.int_of]; rfl) (by rw [he.str_of]; rfl)
    | str a =>
      cases e with
      | tup ys => obtain ⟨b, ws, rfl, hb, _⟩ := he.tup_of; rw [hd.str_of] at ru; obtain ⟨t, rfl⟩ := ru; cases rv; obtain ⟨_, _, p, _⟩ := I.tuple (SqT.of hb); simp only [eqD]; exact SeqAt.EqAt.str_tuple a t p (by omega)
      | lst ys => obtain ⟨b, ws, rfl, hb, _⟩ := he.lst_of; rw [hd.str_of] at ru; obtain ⟨t, rfl⟩ := ru; cases rv; obtain ⟨_, _, p, _⟩ := I.list (SqL.of hb); simp only [eqD]; exact SeqAt.EqAt.str_list a t p.isList (by omega)
      | non => exact eqAt_flat hd he ru rv (by rw [hd.str_of]; rfl) (by rw [he.non_of]; rfl)
      | bl _ => exact eqAt_flat hd he ru rv (by rw [hd.str_of]; rfl) (by rw [he.bl_of]; rfl)
      | int _ => exact eqAt_flat hd he ru rv (by rw [hd.str_of]; rfl) (by rw [he.int_of]; rfl)
      | str _ => exact eqAt_flat hd he ru rv (by rw [hd.str_of]; rfl) (by rw [he.str_of]; rfl)
  | succ n ih =>
    intro A d e x y u v hdp hu hd he ru rv
    cases d with
    | tup xs =>
      obtain ⟨a, vs, rfl, ha, hr⟩ := hd.tup_of
      cases ru
      obtain ⟨its, rl, p, hz⟩ := I.tuple (SqT.of ha)
      cases e with
      | tup ys =>
        obtain ⟨b, ws, rfl, hb, hr'⟩ := he.tup_of
        cases rv
        obtain ⟨its', rl', p', hz'⟩ := I.tuple (SqT.of hb)
        by_cases hab : a = b
        · subst hab
          rw [Rep.inj hd he, eqD_self]
          exact SeqAt.EqAt.same _
        · refine SeqAt.EqAt.of_refs hab ?_
          have l1 : its.toArray.size = xs.length := by rw [List.size_toArray, ← rl.length, hr.length]
          have l2 : its'.toArray.size = ys.length := by rw [List.size_toArray, ← rl'.length, hr'.length]
          have q := SeqAt.RcAt.tuples (A := A) (s := s) (e := fun i => eqD (xs.getD i .non) (ys.getD i .non)) p p' (by omega) (fun j h1 h2 => ?_)
          · have e1 : (((List.range (min its.toArray.size its'.toArray.size)).all fun i => eqD (xs.getD i .non) (ys.getD i .non)) && (its.toArray.size == its'.toArray.size)) = eqD (.tup xs) (.tup ys) := by
              rw [l1, l2, eqD]
              by_cases hl : xs.length = ys.length
              · rw [eqDs_all hl, hl]; simp
              · rw [eqDs_len hl]; simp [hl]
            rw [e1] at q
            exact q
          · have j1 : j < xs.length := by rw [← l1]; exact h1
            have j2 : j < ys.length := by rw [← l2]; exact h2
            have g1 : xs[j]? = some (xs.getD j .non) := by simp [List.getD, j1]
            have g2 : ys[j]? = some (ys.getD j .non) := by simp [List.getD, j2]
            obtain ⟨w1, a1, b1⟩ := hr.get g1
            obtain ⟨w2, a2, b2⟩ := hr'.get g2
            obtain ⟨u1, c1, d1⟩ := rl.get a1
            obtain ⟨u2, c2, d2⟩ := rl'.get a2
            have k1 : its.toArray[j] = u1 := by
              have := (List.getElem?_eq_some_iff.mp c1).2
              simpa using this
            have k2 : its'.toArray[j] = u2 := by
              have := (List.getElem?_eq_some_iff.mp c2).2
              simpa using this
            rw [k1, k2]
            refine ih ?_ (by show A.units + 1 + n < cLine; omega) b1 b2 d1 d2
            have := deps_get g1
            simp [dep] at hdp
            omega
      | lst ys => obtain ⟨b, ws, rfl, hb, _⟩ := he.lst_of; cases rv; obtain ⟨_, _, p', _⟩ := I.list (SqL.of hb); simp only [eqD]; exact SeqAt.EqAt.tuple_list p p'.isList (by omega)
      | non => rw [he.non_of] at rv; cases rv; simp only [eqD]; exact SeqAt.EqAt.tuple_none p (by omega)
      | bl b => rw [he.bl_of] at rv; cases rv; simp only [eqD]; exact SeqAt.EqAt.tuple_bool b p (by omega)
      | int b => rw [he.int_of] at rv; obtain ⟨t, rfl⟩ := rv; simp only [eqD]; exact SeqAt.EqAt.tuple_int b t p (by omega)
      | str b => rw [he.str_of] at rv; obtain ⟨t, rfl⟩ := rv; simp only [eqD]; exact SeqAt.EqAt.tuple_str b t p (by omega)
    | lst xs =>
      obtain ⟨a, vs, rfl, ha, hr⟩ := hd.lst_of
      cases ru
      obtain ⟨its, rl, p, hz⟩ := I.list (SqL.of ha)
      cases e with
      | lst ys =>
        obtain ⟨b, ws, rfl, hb, hr'⟩ := he.lst_of
        cases rv
        obtain ⟨its', rl', p', hz'⟩ := I.list (SqL.of hb)
        by_cases hab : a = b
        · subst hab
          rw [Rep.inj hd he, eqD_self]
          exact SeqAt.EqAt.same _
        · refine SeqAt.EqAt.of_refs hab ?_
          have l1 : its.toArray.size = xs.length := by rw [List.size_toArray, ← rl.length, hr.length]
          have l2 : its'.toArray.size = ys.length := by rw [List.size_toArray, ← rl'.length, hr'.length]
          by_cases hl : xs.length = ys.length
          · have q := SeqAt.RcAt.lists (A := A) (s := s) (e := fun i => eqD (xs.getD i .non) (ys.getD i .non)) p.isList p'.isList (by rw [l1, l2, hl]) (by omega) (fun j h1 h2 => ?_)
            · have e1 : ((List.range its.toArray.size).all fun i => eqD (xs.getD i .non) (ys.getD i .non)) = eqD (.lst xs) (.lst ys) := by
                rw [l1, eqD, eqDs_all hl]
              rw [e1] at q
              exact q
            · have j1 : j < xs.length := by rw [← l1]; exact h1
              have j2 : j < ys.length := by rw [← l2]; exact h2
              have g1 : xs[j]? = some (xs.getD j .non) := by simp [List.getD, j1]
              have g2 : ys[j]? = some (ys.getD j .non) := by simp [List.getD, j2]
              obtain ⟨w1, a1, b1⟩ := hr.get g1
              obtain ⟨w2, a2, b2⟩ := hr'.get g2
              obtain ⟨u1, c1, d1⟩ := rl.get a1
              obtain ⟨u2, c2, d2⟩ := rl'.get a2
              have k1 : its.toArray[j] = u1 := by
                have := (List.getElem?_eq_some_iff.mp c1).2
                simpa using this
              have k2 : its'.toArray[j] = u2 := by
                have := (List.getElem?_eq_some_iff.mp c2).2
                simpa using this
              rw [k1, k2]
              refine ih ?_ (by show A.units + 1 + n < cLine; omega) b1 b2 d1 d2
              have := deps_get g1
              simp [dep] at hdp
              omega
          · rw [eqD, eqDs_len hl]
            exact SeqAt.RcAt.lists_lengths p.isList p'.isList (by rw [l1, l2]; simpa using hl) (by omega)
      | tup ys => obtain ⟨b, ws, rfl, hb, _⟩ := he.tup_of; cases rv; obtain ⟨_, _, p', _⟩ := I.tuple (SqT.of hb); simp only [eqD]; exact SeqAt.EqAt.list_tuple p.isList p' (by omega)
      | non => rw [he.non_of] at rv; cases rv; simp only [eqD]; exact SeqAt.EqAt.list_none p.isList (by omega)
      | bl b => rw [he.bl_of] at rv; cases rv; simp only [eqD]; exact SeqAt.EqAt.list_bool b p.isList (by omega)
      | int b => rw [he.int_of] at rv; obtain ⟨t, rfl⟩ := rv; simp only [eqD]; exact SeqAt.EqAt.list_int b t p.isList (by omega)
      | str b => rw [he.str_of] at rv; obtain ⟨t, rfl⟩ := rv; simp only [eqD]; exact SeqAt.EqAt.list_str b t p.isList (by omega)
    | non => exact ih (by simp [dep]) (by omega) hd he ru rv
    | bl _ => exact ih (by simp [dep]) (by omega) hd he ru rv
    | int _ => exact ih (by simp [dep]) (by omega) hd he ru rv
    | str _ => exact ih (by simp [dep]) (by omega) hd he ru rv
end
end L2

namespace L2
open PySem PySem.Spec PyProof.Rows

/-! ### == and != of lists and tuples of data -/
def isRefD : D → Bool
  | .tup _ => true
  | .lst _ => true
  | _ => false
def rEqD (neg : Bool) : R2 := fun x y H Q => ∃ d e, Rep H d x ∧ Rep H e y ∧ isRefD d = true ∧ isRefD e = true ∧ dep d ≤ 50 ∧ Q (.bl (if neg then !eqD d e else eqD d e)) H
section
variable {X : Cx}
theorem items_eqAt {pins : List (Addr × Obj)} {σ : St} {H : Hp} {s : Shared} (I : Inv X pins σ H s) {A : Around} {xs ys : List D} {vs ws : List V} {its its' : List Value} (hu : A.units + 52 < cLine) (hd : deps xs ≤ 50) (hr : Reps H xs vs) (hr' : Reps H ys ws) (rl : Vals vs its) (rl' : Vals ws its')
    (j : Nat) (h1 : j < its.toArray.size) (h2 : j < its'.toArray.size) : SeqAt.EqAt A.in1 s its.toArray[j] its'.toArray[j] (eqD (xs.getD j .non) (ys.getD j .non)) := by
  have l1 : its.toArray.size = xs.length := by rw [List.size_toArray, ← rl.length, hr.length]
  have l2 : its'.toArray.size = ys.length := by rw [List.size_toArray, ← rl'.length, hr'.length]
  have j1 : j < xs.length := by rw [← l1]; exact h1
  have j2 : j < ys.length := by rw [← l2]; exact h2
  have g1 : xs[j]? = some (xs.getD j .non) := by simp [List.getD, j1]
  have g2 : ys[j]? = some (ys.getD j .non) := by simp [List.getD, j2]
  obtain ⟨w1, a1, b1⟩ := hr.get g1
  obtain ⟨w2, a2, b2⟩ := hr'.get g2
  obtain ⟨u1, c1, d1⟩ := rl.get a1
  obtain ⟨u2, c2, d2⟩ := rl'.get a2
  have k1 : its.toArray[j] = u1 := by
    have := (List.getElem?_eq_some_iff.mp c1).2
    simpa using this
  have k2 : its'.toArray[j] = u2 := by
    have := (List.getElem?_eq_some_iff.mp c2).2
    simpa using this
  rw [k1, k2]
  exact eqAt_D I 50 (Nat.le_trans (deps_get g1) hd) (by show A.units + 1 + 50 < cLine; omega) b1 b2 d1 d2
theorem all_eqDs {xs ys : List D} {n m : Nat} (l1 : n = xs.length) (l2 : m = ys.length) :
    (((List.range (min n m)).all fun i => eqD (xs.getD i .non) (ys.getD i .non)) && (n == m)) = eqDs xs ys := by
  subst l1 l2
  by_cases hl : xs.length = ys.length
  · rw [eqDs_all hl, hl]; simp
  · rw [eqDs_len hl]; simp [hl]
theorem op_eqD (hu : X.A.units + 52 < cLine) : OpR X (compareOp .Eq) (rEqD false) := by
  intro pins s σ H x y v u Q I rx ry h
  obtain ⟨d, e, hd, he, fd, fe, hdp, q⟩ := h
  have fin : ∀ {b : Bool}, b = eqD d e → EP X pins σ Q (.bool b) s := fun {b} eb => by subst eb; exact ⟨.bl _, H, I, rfl, q⟩
  cases d with
  | tup xs =>
    obtain ⟨a, vs, rfl, ha, hr⟩ := hd.tup_of
    cases rx
    obtain ⟨its, rl, p, hz⟩ := I.tuple (SqT.of ha)
    have l1 : its.toArray.size = xs.length := by rw [List.size_toArray, ← rl.length, hr.length]
    have hds : deps xs ≤ 50 := by simp [dep] at hdp; omega
    cases e with
    | tup ys =>
      obtain ⟨b, ws, rfl, hb, hr'⟩ := he.tup_of
      cases ry
      obtain ⟨its', rl', p', hz'⟩ := I.tuple (SqT.of hb)
      have l2 : its'.toArray.size = ys.length := by rw [List.size_toArray, ← rl'.length, hr'.length]
      exact SeqAt.RcAt.tuples p p' (by omega) (items_eqAt I hu hds hr hr' rl rl') _ _ _ _ (fin (by rw [all_eqDs l1 l2, eqD]))
    | lst ys =>
      obtain ⟨b, ws, rfl, hb, hr'⟩ := he.lst_of
      cases ry
      obtain ⟨its', rl', p', hz'⟩ := I.list (SqL.of hb)
      exact SeqAt.RcAt.tuple_list p p'.isList (by omega) _ _ _ _ (fin (by simp [eqD]))
    | _ => cases fe
  | lst xs =>
    obtain ⟨a, vs, rfl, ha, hr⟩ := hd.lst_of
    cases rx
    obtain ⟨its, rl, p, hz⟩ := I.list (SqL.of ha)
    have l1 : its.toArray.size = xs.length := by rw [List.size_toArray, ← rl.length, hr.length]
    have hds : deps xs ≤ 50 := by simp [dep] at hdp; omega
    cases e with
    | lst ys =>
      obtain ⟨b, ws, rfl, hb, hr'⟩ := he.lst_of
      cases ry
      obtain ⟨its', rl', p', hz'⟩ := I.list (SqL.of hb)
      have l2 : its'.toArray.size = ys.length := by rw [List.size_toArray, ← rl'.length, hr'.length]
      by_cases hl : xs.length = ys.length
      · exact SeqAt.RcAt.lists p.isList p'.isList (by rw [l1, l2, hl]) (by omega) (items_eqAt I hu hds hr hr' rl rl') _ _ _ _ (fin (by rw [l1, eqD, eqDs_all hl]))
      · exact SeqAt.RcAt.lists_lengths p.isList p'.isList (by rw [l1, l2]; simpa using hl) (by omega) _ _ _ _ (fin (by rw [eqD, eqDs_len hl]))
    | tup ys =>
      obtain ⟨b, ws, rfl, hb, hr'⟩ := he.tup_of
      cases ry
      obtain ⟨its', rl', p', hz'⟩ := I.tuple (SqT.of hb)
      exact SeqAt.RcAt.list_tuple p.isList p' (by omega) _ _ _ _ (fin (by simp [eqD]))
    | _ => cases fe
  | _ => cases fd
theorem op_neD (hu : X.A.units + 52 < cLine) : OpR X (compareOp .NotEq) (rEqD true) := by
  intro pins s σ H x y v u Q I rx ry h
  obtain ⟨d, e, hd, he, fd, fe, hdp, q⟩ := h
  have fin : ∀ {b : Bool}, b = (!eqD d e) → EP X pins σ Q (.bool b) s := fun {b} eb => by subst eb; exact ⟨.bl _, H, I, rfl, q⟩
  cases d with
  | tup xs =>
    obtain ⟨a, vs, rfl, ha, hr⟩ := hd.tup_of
    cases rx
    obtain ⟨its, rl, p, hz⟩ := I.tuple (SqT.of ha)
    have l1 : its.toArray.size = xs.length := by rw [List.size_toArray, ← rl.length, hr.length]
    have hds : deps xs ≤ 50 := by simp [dep] at hdp; omega
    cases e with
    | tup ys =>
      obtain ⟨b, ws, rfl, hb, hr'⟩ := he.tup_of
      cases ry
      obtain ⟨its', rl', p', hz'⟩ := I.tuple (SqT.of hb)
      have l2 : its'.toArray.size = ys.length := by rw [List.size_toArray, ← rl'.length, hr'.length]
      exact SeqAt.RcNeAt.tuples p p' (by omega) (items_eqAt I hu hds hr hr' rl rl') _ _ _ _ (fin (by rw [all_eqDs l1 l2, eqD]))
    | lst ys =>
      obtain ⟨b, ws, rfl, hb, hr'⟩ := he.lst_of
      cases ry
      obtain ⟨its', rl', p', hz'⟩ := I.list (SqL.of hb)
      exact SeqAt.RcNeAt.tuple_list p p'.isList (by omega) _ _ _ _ (fin (by simp [eqD]))
    | _ => cases fe
  | lst xs =>
    obtain ⟨a, vs, rfl, ha, hr⟩ := hd.lst_of
    cases rx
    obtain ⟨its, rl, p, hz⟩ := I.list (SqL.of ha)
    have l1 : its.toArray.size = xs.length := by rw [List.size_toArray, ← rl.length, hr.length]
    have hds : deps xs ≤ 50 := by simp [dep] at hdp; omega
    cases e with
    | lst ys =>
      obtain ⟨b, ws, rfl, hb, hr'⟩ := he.lst_of
      cases ry
      obtain ⟨its', rl', p', hz'⟩ := I.list (SqL.of hb)
      have l2 : its'.toArray.size = ys.length := by rw [List.size_toArray, ← rl'.length, hr'.length]
      by_cases hl : xs.length = ys.length
      · exact SeqAt.RcNeAt.lists p.isList p'.isList (by rw [l1, l2, hl]) (by omega) (items_eqAt I hu hds hr hr' rl rl') _ _ _ _ (fin (by rw [l1, eqD, eqDs_all hl]))
      · exact SeqAt.RcNeAt.lists_lengths p.isList p'.isList (by rw [l1, l2]; simpa using hl) (by omega) _ _ _ _ (fin (by rw [eqD, eqDs_len hl]; rfl))
    | tup ys =>
      obtain ⟨b, ws, rfl, hb, hr'⟩ := he.tup_of
      cases ry
      obtain ⟨its', rl', p', hz'⟩ := I.tuple (SqT.of hb)
      exact SeqAt.RcNeAt.list_tuple p.isList p' (by omega) _ _ _ _ (fin (by simp [eqD]))
    | _ => cases fe
  | _ => cases fd

/-! ### isinstance against a built-in class -/
def tyN (H : Hp) : V → Option String
  | .non => some "NoneType"
  | .bl _ => some "bool"
  | .int _ => some "int"
  | .str _ => some "str"
  | .ref a => match H a with
    | some (.lst _) => some "list"
    | some (.tup _) => some "tuple"
    | some (.dK _) => some "dict"
    | some (.dT _) => some "dict"
    | _ => none
  | _ => none
theorem tyOf_N {K : PySem.W.Frag} {H : Hp} {x : V} {n : String} (h : tyN H x = some n) : TyOf K H x (.type n) := by
  cases x with
  | non => cases h; exact .non
  | bl b => cases h; exact .bl b
  | int i => cases h; exact .int i
  | str z => cases h; exact .str z
  | ref a =>
    unfold tyN at h
    cases e : H a with
    | none => simp [e] at h
    | some o =>
      cases o <;> simp [e] at h
      · subst h; exact .lst e
      · subst h; exact .tup e
      · subst h; exact .dK e
      · subst h; exact .dT e
  | _ => cases h
def isiN : String → String → Option Bool
  | "int", "bool" => some false | "int", "int" => some true | "int", "tuple" => some false | "int", "str" => some false
  | "bool", "bool" => some true | "bool", "int" => some true | "bool", "tuple" => some false | "bool", "str" => some false
  | "str", "bool" => some false | "str", "int" => some false | "str", "tuple" => some false | "str", "str" => some true
  | "tuple", "bool" => some false | "tuple", "int" => some false | "tuple", "tuple" => some true | "tuple", "str" => some false
  | "list", "bool" => some false | "list", "int" => some false | "list", "tuple" => some false | "list", "str" => some false
  | "NoneType", "bool" => some false | "NoneType", "int" => some false | "NoneType", "tuple" => some false | "NoneType", "str" => some false
  | _, _ => none
theorem isiN_kit {K : PySem.W.Frag} {n c : String} {b : Bool} (h : isiN n c = some b) : PySem.W.kitOne K (.type n) (.type c) = some b := by
  unfold isiN at h
  split at h <;> first | (cases h; rfl) | cases h
def rIsi : List V → Hp → VK → Prop := fun xs H Q => match xs with
  | [x, .ty c] => (match tyN H x with
    | some n => (match isiN n c with
      | some b => Q (.bl b) H
      | none => False)
    | none => False)
  | _ => False
theorem rIsi_of {xs : List V} {H : Hp} {Q : VK} (h : rIsi xs H Q) : ∃ x n c b, xs = [x, .ty c] ∧ tyN H x = some n ∧ isiN n c = some b ∧ Q (.bl b) H := by
  unfold rIsi at h
  split at h
  · split at h
    · split at h
      · exact ⟨_, _, _, _, rfl, ‹_›, ‹_›, h⟩
      · exact h.elim
    · exact h.elim
  · exact h.elim
theorem call_isi : CallR X (.builtin "isinstance") rIsi := by
  intro pins s σ H xs us Q I r h
  obtain ⟨x, n, c, b, rfl, ht, hk, q⟩ := rIsi_of h
  obtain ⟨u, w', rfl, ru, rw'⟩ := vals2 r
  cases rw'
  exact isinst_ok I ru (tyOf_N ht) (isiN_kit hk) fun tk => ⟨.bl b, H, I.tok tk, rfl, q⟩

/-! ### range(a, b) as a value, list of it -/
def tRng (ta : TA) : TE := fun σ H Q => ta σ H fun vs H1 => ∃ i j : Int, vs = [.int i, .int j] ∧ ∀ p, H1 p = none → Q (.ref p) (upd H1 p (.rng i j))
theorem pe_range2 {a b : Expr} {ta : TA} {p pos : Pos} (hg : Gl X "range") (hm : X.mg "range" = none) (ha : PA X [a, b] ta) (hs : starEach [a, b] X.env = [(false, eval a X.env), (false, eval b X.env)] := by with_unfolding_all rfl) (hs2 : starEach [b] X.env = [(false, eval b X.env)] := by with_unfolding_all rfl) :
    PE X (.Call (.Name "range" p) [a, b] [] pos) (tRng ta) := by
  intro pins s σ H Q I h
  refine Call_ (ld_blt I hg hm boot_range (PyProof.Rows.callWith_type1 (thn (ha pos pins s σ H _ I h) fun us s1 ⟨vs, H1, I1, r1, q1⟩ => ?_) (by rw [hs, hs2]) (by rw [hs2]; rfl)))
  obtain ⟨i, j, e, q⟩ := q1
  subst e
  obtain ⟨u1, u2, rfl, r, r'⟩ := vals2 r1
  obtain ⟨t, rfl⟩ := r
  obtain ⟨t', rfl⟩ := r'
  refine call_range_2 ⟨.ref s1.heap.objs.size, upd H1 s1.heap.objs.size (.rng i j), I1.laid (t' := s1.toks + 1) (fun b u e => Heap.get?_push_of_some _ e) (Nat.le_refl _) ?_, rfl, q _ (I1.hok.fresh (Nat.le_refl _))⟩
  exact ⟨t, t', s1.toks, Heap.get?_push_size _ rfl⟩
/-- lo, lo + 1, .. below hi -/
def rngV (lo hi : Int) : List V := (List.range (hi - lo).toNat).map fun k => V.int (lo + (k : Nat))
def rListRng : List V → Hp → VK → Prop := fun xs H Q => ∃ r lo hi, xs = [.ref r] ∧ H r = some (.rng lo hi) ∧ -1000000 ≤ lo ∧ lo ≤ 1000000 ∧ -1000000 ≤ hi ∧ hi ≤ 1000000 ∧ ∀ l, H l = none → Q (.ref l) (upd H l (.lst (rngV lo hi)))
theorem call_list_rng (hc : X.calm = true) : CallR X (.type "list") rListRng := by
  intro pins s σ H xs us Q I r h
  obtain ⟨a, lo, hi, rfl, ha, h1, h2, h3, h4, q⟩ := h
  obtain ⟨u, rfl, ru⟩ := vals1 r
  cases ru
  obtain ⟨t, t', t'', hr⟩ := (show ObjOk X.prog X.w H s.heap a (.rng lo hi) from I.hok a _ ha)
  have hn : Builtin.Range.rangeSize lo hi 1 = (((hi - lo).toNat : Nat) : Int) := by rw [rangeSize_one]; split <;> omega
  refine call_list_range (n := (hi - lo).toNat) (I.ok.hd hc) hr (small_one (by omega) (by omega) (by omega) (by omega)) hn (by omega) fun h' tk acc c' hk hg hit => ?_
  obtain ⟨hsz, hit⟩ := hit
  have hl : Vals (rngV lo hi) acc.toList := by
    have key : ∀ (n : Nat) (f : Nat → V) (us : List Value), us.length = n → (∀ j v, us[j]? = some v → RelV (f j) v) → Vals ((List.range n).map f) us := by
      intro n
      induction n with
      | zero => intro f us e _; cases us with
        | nil => exact .nil
        | cons _ _ => simp at e
      | succ n ih =>
        intro f us e hh
        cases us with
        | nil => simp at e
        | cons v us =>
          rw [List.range_succ_eq_map, List.map_cons, List.map_map]
          exact .cons (hh 0 v rfl) (ih (f ∘ Nat.succ) us (by simpa using e) fun j w' z => hh (j + 1) w' (by simpa using z))
    refine key _ _ _ (by simpa using hsz) fun j v e => ?_
    obtain ⟨t, e1⟩ := hit j v (by simpa using e)
    exact ⟨t, by simpa using e1⟩
  have hgn : H s.heap.objs.size = none := I.hok.fresh (Nat.le_refl _)
  refine ⟨.ref s.heap.objs.size, upd H s.heap.objs.size (.lst (rngV lo hi)), I.laid (t' := tk) hk (Nat.le_refl _) ?_, rfl, q _ hgn⟩
  refine ⟨?_, acc.toList, c', hl, by simpa using hg⟩
  rw [hl.length]
  have : acc.toList.length = (hi - lo).toNat := by simpa using hsz
  rw [this, sizeLine_eq]
  omega

/-! ### t[a:b], the whole of it: t itself -/
def rSlTW (K : PySem.W.Frag) : V → Option Int → Option Int → Hp → VK → Prop := fun x lo hi H Q => ∃ a xs, x = .ref a ∧ SqT K H a xs ∧ HT.sIx xs.length 0 lo = 0 ∧ HT.sIx xs.length xs.length hi = xs.length ∧ Q (.ref a) H
theorem getItem_tuple_whole {prog : Program} {w : World} {A : Around} {E : Value → Shared → Prop} {s : Shared} {t sl : Addr} {items : Array Value} {vl vu : Value} {lo hi : Option Int} {Q : Value → Shared → Prop} (ht : IsTup s.heap t items) (hs : s.heap.IsSliceOf sl vl vu .none) (pl : IsPart vl lo) (pu : IsPart vu hi)
    (h1 : HT.sIx items.size 0 lo = 0) (h2 : HT.sIx items.size items.size hi = items.size) (h : Q (.ref t) s) : wpAny (model prog w) A (getItem (.ref t) (.ref sl)) Q E s := by
  obtain ⟨os, hos, hcs, hds⟩ := id hs
  have hTs : s.TypeIs (.ref sl) "slice" := ⟨os, hos, hcs⟩
  unfold getItem
  refine wpAny_holding (wpAny_bind (wpAny_sequenceKey ht.typeIs (by decide) ?_))
  refine wpAny_bind (wpAny_callSpecial?_slot (name := Str.ofString "__getitem__") ht.typeIs PyProof.Rows.slot_tuple_getitem (wpAny_call_entry PyProof.Rows.slot_tuple_getitem ht.typeIs entry_tuple_getitem ?_ (args_tuple_getitem _ _)))
  show wpAny _ _ (Builtin.Tuple.tupleItemsOf (.ref t) >>= _) _ _ s
  refine wpAny_bind (tupleItemsOf_ ht (wpAny_bind (wpAny_typeOf hTs ?_)))
  rw [if_pos (by decide)]
  refine wpAny_bind (HT.sliceApplied_gen hs pl pu ?_)
  rw [h1, h2]
  show wpAny _ _ (if ((((0 : Nat) : Int) == 0 && (1 : Int) == 1 && (items.size - 0) == items.size) = true) then _ else _) _ _ s
  rw [if_pos (by simp)]
  refine wpAny_bind (wpAny_bind (wpAny_typeOf ht.typeIs (wpAny_pure ?_)))
  rw [if_pos (by decide)]
  exact wpAny_bind (wpAny_rule (wpAny_pure ⟨_, rfl, wpAny_pure h⟩))
theorem sl_tupW : SlR X (rSlTW X.K) := by
  intro pins s σ H x v vl vu lo hi sl Q I rx hs pl pu h
  obtain ⟨a, xs, rfl, hx, h1, h2, q⟩ := h
  cases rx
  obtain ⟨its, r, ht, hz⟩ := I.tuple hx
  have hlen : its.toArray.size = xs.length := by rw [List.size_toArray]; exact r.length.symm
  exact ⟨"tuple", _, PyProof.Rows.slot_tuple_getitem.lookup, ht.typeIs, getItem_tuple_whole ht hs pl pu (by rw [hlen]; exact h1) (by rw [hlen]; exact h2) ⟨.ref a, H, I, rfl, q⟩⟩
/-- t[a:b] of data -/
def rSlD : V → Option Int → Option Int → Hp → VK → Prop := fun x lo hi H Q => ∃ a xs, x = .ref a ∧ H a = some (.tup xs) ∧ (∀ p, H p = none → Q (.ref p) (upd H p (.tup (cutV xs lo hi)))) ∧ (cutV xs lo hi = xs → Q (.ref a) H)
theorem sl_tupD : SlR X rSlD := by
  intro pins s σ H x v vl vu lo hi sl Q I rx hs pl pu h
  obtain ⟨a, xs, rfl, hx, q1, q2⟩ := h
  by_cases hw : HT.sIx xs.length 0 lo = 0 ∧ HT.sIx xs.length xs.length hi = xs.length
  · refine sl_tupW pins s σ H _ v vl vu lo hi sl Q I rx hs pl pu ⟨a, xs, rfl, SqT.of hx, hw.1, hw.2, q2 ?_⟩
    unfold cutV
    rw [hw.1, hw.2]
    simp
  · exact sl_tup pins s σ H _ v vl vu lo hi sl Q I rx hs pl pu ⟨a, xs, rfl, SqT.of hx, hw, q1⟩

/-! ### t + u of tuples, whatever is empty -/
def rCatD : R2 := fun x y H Q => ∃ a b xs ys, x = .ref a ∧ y = .ref b ∧ H a = some (.tup xs) ∧ H b = some (.tup ys) ∧ xs.length + ys.length ≤ sizeLine ∧ (xs = [] → Q (.ref b) H) ∧ (ys = [] → Q (.ref a) H) ∧ (∀ p, H p = none → Q (.ref p) (upd H p (.tup (xs ++ ys))))
theorem op_catD : OpR X (binaryOp .Add) rCatD := by
  intro pins s σ H x y v u Q I rx ry h
  obtain ⟨a, b, xs, ys, rfl, rfl, ha, hb, hz, q0, q1, q2⟩ := h
  by_cases hx : xs = []
  · cases rx
    cases ry
    obtain ⟨its, r, ht, _⟩ := I.tuple (SqT.of ha)
    obtain ⟨its', r', ht', _⟩ := I.tuple (SqT.of hb)
    obtain ⟨⟨cls, dd, data, sl⟩, ho, hc, n, hd⟩ := id ht
    obtain ⟨⟨cls2, dd2, data2, sl2⟩, ho2, hc2, n2, hd2⟩ := id ht'
    simp only at hc hd hc2 hd2
    subst hc hd hc2 hd2
    have e0 : its = [] := r.nil_iff.mpr hx
    exact concat_meets ⟨_, ho, rfl⟩ ⟨_, ho2, rfl⟩ noFill_tuple_add seq_tuple_add PySem.F.slot_tuple_add PySem.F.entry_tuple_add (PySem.F.args_tuple_add_2 _ _)
      (tuple_addW0 a b its.toArray its'.toArray n n2 dd dd2 sl sl2 (by rw [e0]; rfl)) ⟨ho, ho2, ⟨.ref b, H, I, rfl, q0 hx⟩⟩
  · exact op_catT pins s σ H _ _ v u Q I rx ry ⟨a, b, xs, ys, rfl, rfl, SqT.of ha, SqT.of hb, hx, hz, q1, fun _ => q2⟩
end
end L2

namespace L2
open PySem PySem.Spec PyProof.Rows

/-! ### zip of two tuples -/
namespace Zp
section
variable {prog : Program} {w : World} {A : Around} {E : Value → Shared → Prop} {s : Shared}
/-- the iterator's step, under zip -/
theorem nextT {it l : Addr} {i : Nat} {its : Array Value} {x : Value} {Q : Value → Shared → Prop} (hI : s.heap.IsTupleIter it l i) (hT : s.heap.IsTuple l its) (hx : its[i]? = some x)
    (hQ : ∀ h', h'.IsTupleIter it l (i + 1) → Heap.SameBut it s.heap h' → Q x { s with heap := h' }) : wpAny (model prog w) A (Builtin.SmallTypes.nextOf (.ref it)) Q E s := by
  obtain ⟨o, ho, hc, hd⟩ := id hI
  obtain ⟨ot, hot, _, nt, hdt⟩ := hT
  unfold Builtin.SmallTypes.nextOf
  refine wpAny_bind (wpAny_callSpecial?_slot (name := Str.ofString "__next__") hI.typeIs F.slot_tuple_iterator_next (wpAny_call_entry F.slot_tuple_iterator_next hI.typeIs F.entry_tuple_iterator_next ?_ (F.args_tuple_iterator_next_1 _)))
  show wpAny _ _ (field (.ref it) 0 >>= _) _ _ s
  refine wpAny_bind (wpAny_field ho hd (x := .ref l) rfl ?_)
  rw [if_neg (show ¬ ((Value.ref l == Value.none) = true) from Bool.false_ne_true)]
  refine wpAny_bind (wpAny_field ho hd (x := .int i 0) rfl (wpAny_bind (wpAny_seqItems hot hdt ?_)))
  simp only [Int.toNat_natCast, hx]
  refine wpAny_bind (wpAny_setField ho hd (by simp) (wpAny_pure ⟨x, rfl, wpAny_pure (hQ _ ?_ (Heap.SameBut.update ..))⟩))
  refine ⟨_, Heap.get?_update_self _ ho (Obj.isFreed_of_fields (Obj.data_mapFields hd _)), (Obj.cls_mapFields ..).trans hc, ?_⟩
  rw [Obj.data_mapFields hd]; simp [rawInt]
theorem endT {it l : Addr} {i : Nat} {its : Array Value} {Q : Value → Shared → Prop} (hh : A.handled = none) (hI : s.heap.IsTupleIter it l i) (hT : s.heap.IsTuple l its) (hx : its[i]? = none)
    (hE : ∀ h' e, Heap.ExtBut it s.heap h' → (∃ o, h'.get? e = some o ∧ o.cls = .type "StopIteration") → E (.ref e) { s with heap := h' }) : wpAny (model prog w) A (Builtin.SmallTypes.nextOf (.ref it)) Q E s := by
  obtain ⟨o, ho, hc, hd⟩ := id hI
  obtain ⟨ot, hot, _, nt, hdt⟩ := hT
  unfold Builtin.SmallTypes.nextOf
  refine wpAny_bind (wpAny_callSpecial?_slot (name := Str.ofString "__next__") hI.typeIs F.slot_tuple_iterator_next (wpAny_call_entry F.slot_tuple_iterator_next hI.typeIs F.entry_tuple_iterator_next ?_ (F.args_tuple_iterator_next_1 _)))
  show wpAny _ _ (field (.ref it) 0 >>= _) _ _ s
  refine wpAny_bind (wpAny_field ho hd (x := .ref l) rfl ?_)
  rw [if_neg (show ¬ ((Value.ref l == Value.none) = true) from Bool.false_ne_true)]
  refine wpAny_bind (wpAny_field ho hd (x := .int i 0) rfl (wpAny_bind (wpAny_seqItems hot hdt ?_)))
  simp only [Int.toNat_natCast, hx]
  refine wpAny_bind (wpAny_rule (wpAny_bind (wpAny_setField ho hd (by simp) (wpAny_bind ?_))))
  simp only [newExc, newTuple]
  refine wpAny_bind (wpAny_newObj_type (wpAny_bind (m := firstArgMember _ _) (wpAny_of_eq (a := Value.none) (by first | rfl | (simp only [firstArgMember]; rfl)) ?_)) (by size_fits))
  refine wpAny_newObj_type ?_ (by size_fits)
  simp only [raiseNew]
  refine wpAny_bind (wpAny_handled ?_)
  first | rw [show A.in1.handled = none from hh] | rw [hh]
  exact wpAny_bind (wpAny_pure (wpAny_throw (hE _ _ (((Heap.SameBut.update ..).extBut.push _).push _) ⟨_, Heap.get?_push_size _ rfl, rfl⟩)))

/-- the five records of a zip, all apart -/
structure Ap (z ti to i1 i2 : Addr) : Prop where
  a1 : ti ≠ z
  a2 : to ≠ z
  a3 : i1 ≠ z
  a4 : i2 ≠ z
  b1 : ti ≠ to
  b2 : ti ≠ i1
  b3 : ti ≠ i2
  c1 : to ≠ i1
  c2 : to ≠ i2
  d1 : i1 ≠ i2
/-- the state of a zip ahead of turn i -/
structure St (z ti to i1 i2 l1 l2 : Addr) (i : Nat) (h : Heap) : Prop where
  ap : Ap z ti to i1 i2
  zz : IsZip h z ti to .none
  tI : IsPair h ti (.ref i1) (.ref i2)
  tO : ∃ a b, IsPair h to a b
  j1 : h.IsTupleIter i1 l1 i
  j2 : h.IsTupleIter i2 l2 i
theorem St.keep {z ti to i1 i2 l1 l2 : Addr} {i : Nat} {h h' : Heap} (S : St z ti to i1 i2 l1 l2 i h) (k : ∀ b ∈ [z, ti, to, i1, i2], ∀ o, h.get? b = some o → h'.get? b = some o) : St z ti to i1 i2 l1 l2 i h' := by
  obtain ⟨a, b, e⟩ := S.tO
  refine ⟨S.ap, k _ (by simp) _ S.zz, k _ (by simp) _ S.tI, ⟨a, b, k _ (by simp) _ e⟩, ?_, ?_⟩
  · obtain ⟨o, e, r⟩ := S.j1; exact ⟨o, k _ (by simp) _ e, r⟩
  · obtain ⟨o, e, r⟩ := S.j2; exact ⟨o, k _ (by simp) _ e, r⟩
theorem next_item {z ti to i1 i2 l1 l2 : Addr} {i : Nat} {xs ys : Array Value} {x y : Value} {Q : Value → Shared → Prop} (S : St z ti to i1 i2 l1 l2 i s.heap) (t1 : s.heap.IsTuple l1 xs) (t2 : s.heap.IsTuple l2 ys) (n1 : ∀ b ∈ [z, to, i1, i2], l1 ≠ b) (n2 : ∀ b ∈ [z, to, i1, i2], l2 ≠ b)
    (hx : xs[i]? = some x) (hy : ys[i]? = some y)
    (hQ : ∀ h', IsZip h' z ti to (rawInt s.heap.objs.size) → IsPair h' to x y → h'.IsTupleIter i1 l1 (i + 1) → h'.IsTupleIter i2 l2 (i + 1) → IsPair h' s.heap.objs.size x y → (∀ c o, c ∉ [z, to, i1, i2] → s.heap.get? c = some o → h'.get? c = some o) → Q (.ref s.heap.objs.size) { s with heap := h' }) :
    wpAny (model prog w) A (Builtin.«zip.__next__» ⟨[.ref z], []⟩) (fun fin s' => ∃ v, fin = .done (.ret v) ∧ Q v s') E s := by
  obtain ⟨ap, zz, tI, ⟨a, b, tO⟩, j1, j2⟩ := S
  show wpAny _ _ (field (.ref z) 2 >>= _) _ _ _
  refine wpAny_bind (wpAny_field zz rfl (x := .bool false) rfl (wpAny_bind (wpAny_field zz rfl (x := .ref ti) rfl (wpAny_bind (wpAny_seqItems tI rfl (wpAny_bind ?_))))))
  unfold Builtin.SmallTypes.ownedTupleIsFree
  refine wpAny_bind (wpAny_field zz rfl (x := .none) rfl (wpAny_pure ?_))
  simp only [if_true]
  refine wpAny_bind (wpAny_rule (wpAny_bind (wpAny_field zz rfl (x := .ref to) rfl (wpAny_bind (wpAny_setField_rec zz (by simp) fun g1 z1 s1 => ?_)))))
  have z1 : IsZip g1 z ti to .ellipsis := z1
  refine wpAny_bind ?_
  simp only [List.zipIdx_cons, List.zipIdx_nil, List.forIn_cons, List.forIn_nil]
  have kp1 : ∀ c, c ≠ z → ∀ o, s.heap.get? c = some o → g1.get? c = some o := fun c hc o e => (s1.2 c hc).trans e
  refine wpAny_bind (wpAny_bind (wpAny_onRaise (wpAny_bind (nextT (i := i) (its := xs) (let ⟨o, e, r⟩ := j1; ⟨o, kp1 _ ap.a3 _ e, r⟩) (let ⟨o, e, r⟩ := t1; ⟨o, kp1 _ (n1 z (by simp)) _ e, r⟩) hx fun g2 q2 s2 => wpAny_pure ?_))))
  have tO2 : IsPair g2 to a b := (s2.2 to ap.c1).trans (kp1 to ap.a2 _ tO)
  refine wpAny_bind (wpAny_seqItems tO2 rfl (wpAny_bind (wpAny_updateSeq_pair tO2 fun g3 q3 s3 => wpAny_bind (wpAny_letGo (wpAny_pure ?_)))))
  have tO3 : IsPair g3 to x b := q3
  have kp3 : ∀ c, c ∉ [z, to, i1, i2] ∨ c = i2 → ∀ o, s.heap.get? c = some o → g3.get? c = some o := fun c hc o e => by
    have h1 : c ≠ z := by rcases hc with hc | hc; exact fun q => hc (by simp [q]); rw [hc]; exact ap.a4
    have h2 : c ≠ to := by rcases hc with hc | hc; exact fun q => hc (by simp [q]); rw [hc]; exact ap.c2.symm
    have h3 : c ≠ i1 := by rcases hc with hc | hc; exact fun q => hc (by simp [q]); rw [hc]; exact ap.d1.symm
    exact (s3.2 c h2).trans ((s2.2 c h3).trans (kp1 c h1 o e))
  have l2n : l2 ∉ [z, to, i1, i2] := fun q => n2 l2 q rfl
  refine wpAny_bind (wpAny_bind (wpAny_onRaise (wpAny_bind (nextT (i := i) (its := ys) (let ⟨o, e, r⟩ := j2; ⟨o, kp3 _ (.inr rfl) _ e, r⟩) (let ⟨o, e, r⟩ := t2; ⟨o, kp3 _ (.inl l2n) _ e, r⟩) hy fun g4 q4 s4 => wpAny_pure ?_))))
  have tO4 : IsPair g4 to x b := (s4.2 to ap.c2).trans tO3
  refine wpAny_bind (wpAny_seqItems tO4 rfl (wpAny_bind (wpAny_updateSeq_pair tO4 fun g5 q5 s5 => wpAny_bind (wpAny_letGo (wpAny_pure (wpAny_pure ?_))))))
  have tO5 : IsPair g5 to x y := q5
  refine wpAny_bind (wpAny_seqItems tO5 rfl (wpAny_bind (wpAny_newTuple ?_)))
  have hsz : g5.objs.size = s.heap.objs.size := by rw [s5.1, s4.1, s3.1, s2.1, s1.1]
  have z5 : IsZip g5 z ti to .ellipsis := (s5.2 z ap.a2.symm).trans ((s4.2 z ap.a4.symm).trans ((s3.2 z ap.a2.symm).trans ((s2.2 z ap.a3.symm).trans z1)))
  have kp5 : ∀ c, c ∉ [z, to, i1, i2] → ∀ o, s.heap.get? c = some o → g5.get? c = some o := fun c hc o e =>
    (s5.2 c fun q => hc (by simp [q])).trans ((s4.2 c fun q => hc (by simp [q])).trans (kp3 c (.inl hc) o e))
  have j15 : g5.IsTupleIter i1 l1 (i + 1) := by
    obtain ⟨o, e, r⟩ := q2
    exact ⟨o, (s5.2 i1 ap.c1.symm).trans ((s4.2 i1 ap.d1).trans ((s3.2 i1 ap.c1.symm).trans e)), r⟩
  have j25 : g5.IsTupleIter i2 l2 (i + 1) := by
    obtain ⟨o, e, r⟩ := q4
    exact ⟨o, (s5.2 i2 ap.c2.symm).trans e, r⟩
  show wpAny _ _ (Builtin.SmallTypes.ownedTupleHandOut (.ref z) (.ref g5.objs.size) >>= _) _ _ _
  refine wpAny_bind ?_
  unfold Builtin.SmallTypes.ownedTupleHandOut
  have z6 : IsZip (g5.push { cls := .type "tuple", data := .seq #[x, y] }) z ti to .ellipsis := Heap.get?_push_of_some _ z5
  refine wpAny_bind (wpAny_setField_rec z6 (by simp) fun g7 z7 s7 => ?_)
  have z7 : IsZip g7 z ti to (rawInt g5.objs.size) := z7
  refine wpAny_setField_rec z7 (by simp) fun g8 z8 s8 => ?_
  have z8 : IsZip g8 z ti to (rawInt g5.objs.size) := z8
  have up : ∀ c, c ≠ z → ∀ o, g5.get? c = some o → g8.get? c = some o := fun c hc o e => (s8.2 c hc).trans ((s7.2 c hc).trans (Heap.get?_push_of_some _ e))
  have nz : g5.objs.size ≠ z := Nat.ne_of_gt (Heap.lt_size z5)
  have pr : IsPair g8 g5.objs.size x y := (s8.2 _ nz).trans ((s7.2 _ nz).trans (Heap.get?_push_size _ rfl))
  rw [hsz] at z8 pr
  refine wpAny_pure ⟨_, rfl, ?_⟩
  show Q (.ref g5.objs.size) _
  rw [hsz]
  refine hQ g8 z8 (up _ ap.a2 _ tO5) ?_ ?_ pr fun c o hc e => up c (fun q => hc (by simp [q])) o (kp5 c hc o e)
  · obtain ⟨o, e, r⟩ := j15; exact ⟨o, up _ ap.a3 _ e, r⟩
  · obtain ⟨o, e, r⟩ := j25; exact ⟨o, up _ ap.a4 _ e, r⟩
theorem next_end {z ti to i1 i2 l1 l2 : Addr} {i : Nat} {xs ys : Array Value} {Q : Fin → Shared → Prop} (hh : A.handled = none) (S : St z ti to i1 i2 l1 l2 i s.heap) (t1 : s.heap.IsTuple l1 xs) (t2 : s.heap.IsTuple l2 ys) (n1 : ∀ b ∈ [z, to, i1, i2], l1 ≠ b) (n2 : ∀ b ∈ [z, to, i1, i2], l2 ≠ b)
    (hend : xs[i]? = none ∨ ys[i]? = none)
    (hE : ∀ h' e, (∀ c o, c ∉ [z, to, i1, i2] → s.heap.get? c = some o → h'.get? c = some o) → (∃ o, h'.get? e = some o ∧ o.cls = .type "StopIteration") → E (.ref e) { s with heap := h' }) :
    wpAny (model prog w) A (Builtin.«zip.__next__» ⟨[.ref z], []⟩) Q E s := by
  obtain ⟨ap, zz, tI, ⟨a, b, tO⟩, j1, j2⟩ := S
  show wpAny _ _ (field (.ref z) 2 >>= _) _ _ _
  refine wpAny_bind (wpAny_field zz rfl (x := .bool false) rfl (wpAny_bind (wpAny_field zz rfl (x := .ref ti) rfl (wpAny_bind (wpAny_seqItems tI rfl (wpAny_bind ?_))))))
  unfold Builtin.SmallTypes.ownedTupleIsFree
  refine wpAny_bind (wpAny_field zz rfl (x := .none) rfl (wpAny_pure ?_))
  simp only [if_true]
  refine wpAny_bind (wpAny_rule (wpAny_bind (wpAny_field zz rfl (x := .ref to) rfl (wpAny_bind (wpAny_setField_rec zz (by simp) fun g1 z1 s1 => ?_)))))
  have z1 : IsZip g1 z ti to .ellipsis := z1
  refine wpAny_bind ?_
  simp only [List.zipIdx_cons, List.zipIdx_nil, List.forIn_cons, List.forIn_nil]
  have kp1 : ∀ c, c ≠ z → ∀ o, s.heap.get? c = some o → g1.get? c = some o := fun c hc o e => (s1.2 c hc).trans e
  have i1z : g1.IsTupleIter i1 l1 i := let ⟨o, e, r⟩ := j1; ⟨o, kp1 _ ap.a3 _ e, r⟩
  have l1z : g1.IsTuple l1 xs := let ⟨o, e, r⟩ := t1; ⟨o, kp1 _ (n1 z (by simp)) _ e, r⟩
  refine wpAny_bind (wpAny_bind (wpAny_onRaise ?_))
  cases hx : xs[i]? with
  | none =>
    refine wpAny_bind (endT hh i1z l1z hx fun g2 e s2 he => ?_)
    obtain ⟨oe, hoe, hce⟩ := he
    have z2 : IsZip g2 z ti to .ellipsis := s2 _ _ ap.a3.symm z1
    have ez : e ≠ z := fun q => by subst q; rw [z2] at hoe; cases hoe; simp at hce
    exact wpAny_setField_rec z2 (by simp) fun g3 _ s3 => hE g3 e (fun c o hc q => (s3.2 c fun q => hc (by simp [q])).trans (s2 _ _ (fun q => hc (by simp [q])) (kp1 c (fun q => hc (by simp [q])) o q))) ⟨oe, (s3.2 e ez).trans hoe, hce⟩
  | some x =>
    have hy : ys[i]? = none := by
      rcases hend with q | q
      · rw [hx] at q; cases q
      · exact q
    refine wpAny_bind (nextT i1z l1z hx fun g2 q2 s2 => wpAny_pure ?_)
    have tO2 : IsPair g2 to a b := (s2.2 to ap.c1).trans (kp1 to ap.a2 _ tO)
    refine wpAny_bind (wpAny_seqItems tO2 rfl (wpAny_bind (wpAny_updateSeq_pair tO2 fun g3 q3 s3 => wpAny_bind (wpAny_letGo (wpAny_pure (wpAny_bind (wpAny_bind (wpAny_onRaise ?_))))))))
    have kp3 : ∀ c, c ∉ [z, to, i1, i2] ∨ c = i2 → ∀ o, s.heap.get? c = some o → g3.get? c = some o := fun c hc o e => by
      have h1 : c ≠ z := by rcases hc with hc | hc; exact fun q => hc (by simp [q]); rw [hc]; exact ap.a4
      have h2 : c ≠ to := by rcases hc with hc | hc; exact fun q => hc (by simp [q]); rw [hc]; exact ap.c2.symm
      have h3 : c ≠ i1 := by rcases hc with hc | hc; exact fun q => hc (by simp [q]); rw [hc]; exact ap.d1.symm
      exact (s3.2 c h2).trans ((s2.2 c h3).trans (kp1 c h1 o e))
    have l2n : l2 ∉ [z, to, i1, i2] := fun q => n2 l2 q rfl
    refine wpAny_bind (endT hh (let ⟨o, e, r⟩ := j2; ⟨o, kp3 _ (.inr rfl) _ e, r⟩) (let ⟨o, e, r⟩ := t2; ⟨o, kp3 _ (.inl l2n) _ e, r⟩) hy fun g4 e s4 he => ?_)
    obtain ⟨oe, hoe, hce⟩ := he
    have z4 : IsZip g4 z ti to .ellipsis := s4 _ _ ap.a4.symm ((s3.2 z ap.a2.symm).trans ((s2.2 z ap.a3.symm).trans z1))
    have ez : e ≠ z := fun q => by subst q; rw [z4] at hoe; cases hoe; simp at hce
    exact wpAny_setField_rec z4 (by simp) fun g5 _ s5 => hE g5 e (fun c o hc q => (s5.2 c fun q => hc (by simp [q])).trans (s4 _ _ (fun q => hc (by simp [q])) (kp3 c (.inl hc) o q))) ⟨oe, (s5.2 e ez).trans hoe, hce⟩
end
end Zp
end L2

namespace L2
open PySem PySem.Spec PyProof.Rows
theorem boot_zip' : bootBuiltins "zip" = some (.type "zip") := by decide +kernel
/-- the pairs of two tuples -/
def Itz (a b : Addr) : It :=
  ⟨fun i H => ∃ xs ys x y, H a = some (.tup xs) ∧ H b = some (.tup ys) ∧ xs[i]? = some x ∧ ys[i]? = some y,
   fun i H v H' => ∃ T, H T = none ∧ v = .ref T ∧ ∀ xs ys x y, H a = some (.tup xs) → H b = some (.tup ys) → xs[i]? = some x → ys[i]? = some y → H' = upd H T (.tup [x, y]),
   fun i H => ∃ xs ys, H a = some (.tup xs) ∧ H b = some (.tup ys) ∧ (xs.length ≤ i ∨ ys.length ≤ i)⟩
section
variable {X : Cx} {pins : List (Addr × Obj)} {σ : St} {H : Hp} {s : Shared}
/-- untracked records of ours have turned, and a new object may be tracked -/
theorem Inv.turnedAll {ch : List Addr} {h' : Heap} {t' : Nat} (I : Inv X pins σ H s) (hf : ∀ b ∈ ch, FpOk X pins H b) (k : ∀ b o, b ∉ ch → s.heap.get? b = some o → h'.get? b = some o) : Inv X pins σ H { s with heap := h', toks := t' } := by
  have nch : ∀ b u, H b = some u → b ∉ ch := fun b u e z => by rw [(hf b z).1] at e; cases e
  refine I.step (g' := s.gens) (d' := s.drawn) (ch := ch) (fun b hb => ⟨(hf b hb).2.2.2.1, (hf b hb).2.1, (hf b hb).2.2.2.2.1, (hf b hb).2.2.2.2.2⟩) (fun b o _ _ hc e _ => k b o hc e) (fun b o _ _ hc e _ => ⟨o.slots, k b o hc e⟩) (fun _ _ _ _ n => n)
    ?_ (fun _ _ e => e) (fun _ _ _ e => e) (fun b ps e => ⟨#[], by rw [e]; simp⟩) (fun m hm => ?_) (fun b u e => ?_) I.bare
  · intro b o hc e
    exact ⟨o, k b o hc e⟩
  · obtain ⟨o, es, ep, ho, r⟩ := hm
    exact ⟨o, es, ep, k _ o (fun z => (hf _ z).2.1 rfl) ho, r⟩
  · refine (I.hok b u e).stay (fun c v hc q => k c v ?_ q) (fun _ q => q) fun _ _ q => q
    rcases hc with z | z
    · rw [z]; exact nch b u e
    · exact nch c _ z
/-- a younger object that nobody has is tracked -/
theorem Inv.track {a : Addr} {o : HO} (I : Inv X pins σ H s) (f : FpOk X pins H a) (new : ObjOk X.prog X.w (upd H a o) s.heap a o) : Inv X pins σ (upd H a o) s := by
  have nt : ∀ b u, H b = some u → b ≠ a := fun b u e z => by subst z; rw [f.1] at e; cases e
  have q := I.step (H' := upd H a o) (h' := s.heap) (g' := s.gens) (d' := s.drawn) (t' := s.toks) (ch := [a]) (fun b hb => by
      have e : b = a := by simpa using hb
      subst e
      exact ⟨f.2.2.2.1, f.2.1, f.2.2.2.2.1, f.2.2.2.2.2⟩) (fun b o _ _ _ e _ => e) (fun b o _ _ _ e _ => ⟨o.slots, e⟩) (fun b o hc e n => by rw [upd_ne (fun z => hc (by simp [z]))]; exact n)
    (fun b o _ e => ⟨o, e⟩) (fun b xs e => by rw [upd_ne (nt b _ e)]; exact e) (fun b o u e => by rw [upd_ne (nt b _ e)]; exact e) (fun b ps e => ⟨#[], by rw [upd_ne (nt b _ e), e]; simp⟩) (fun m hm => hm) ?_ I.bare
  · exact q
  · intro b u e
    by_cases hb : b = a
    · subst hb; rw [upd_same] at e; cases e; exact new
    · rw [upd_ne hb] at e
      exact (I.hok b u e).stay (fun c v _ q => q) (fun c q => by rw [upd_ne (nt c _ q)]; exact q) fun c xs q => by rw [upd_ne (nt c _ q)]; exact q
end

theorem turn_zip {P : Program} {w : World} {K : PySem.W.Frag} {es : List Expr} {k : Nat} {pos : Pos} (z ti to i1 i2 a b : Addr) : Turn P w K (.Tuple es k pos) (Itz a b) [z, ti, to, i1, i2] z (Zp.St z ti to i1 i2 a b) where
  mem := by simp
  obj := fun i h S c hc => by
    obtain ⟨p, q, e⟩ := S.tO
    obtain ⟨o1, f1, g1, d1⟩ := S.j1
    obtain ⟨o2, f2, g2, d2⟩ := S.j2
    simp only [List.mem_cons, List.not_mem_nil, or_false] at hc
    rcases hc with rfl | rfl | rfl | rfl | rfl
    · exact ⟨_, S.zz, fun v z => by cases z⟩
    · exact ⟨_, S.tI, fun v z => by cases z⟩
    · exact ⟨_, e, fun v z => by cases z⟩
    · exact ⟨_, f1, fun v z => by rw [d1] at z; cases z⟩
    · exact ⟨_, f2, fun v z => by rw [d2] at z; cases z⟩
  keep := fun i h h' S kk => S.keep kk
  item := by
    intro X hP hw hK hc i pins s σ H E I hf S hg
    subst hP hw hK
    obtain ⟨xs, ys, x, y, ha, hb, hx, hy⟩ := hg
    obtain ⟨its, rv, p, hz⟩ := I.tuple (SqT.of ha)
    obtain ⟨its', rv', p', hz'⟩ := I.tuple (SqT.of hb)
    obtain ⟨u, hu, ru⟩ := rv.get hx
    obtain ⟨u', hu', ru'⟩ := rv'.get hy
    have fin : ∀ c ∈ [z, to, i1, i2], c ∈ [z, ti, to, i1, i2] := fun c hc => by simp at hc ⊢; rcases hc with h | h | h | h <;> simp [h]
    have na : ∀ c ∈ [z, to, i1, i2], a ≠ c := fun c hc e => by subst e; rw [(hf a (fin a hc)).1] at ha; cases ha
    have nb : ∀ c ∈ [z, to, i1, i2], b ≠ c := fun c hc e => by subst e; rw [(hf b (fin b hc)).1] at hb; cases hb
    have hT : s.TypeIs (.ref z) "zip" := ⟨_, S.zz, rfl⟩
    unfold pyNext
    refine wpAny_bind (wpAny_attempt (wpAny_callSpecial?_slot (name := Str.ofString "__next__") hT F.slot_zip_next (wpAny_call_entry F.slot_zip_next hT F.entry_zip_next (Zp.next_item S p p' na nb (x := u) (y := u') (by simpa using hu) (by simpa using hu')
      fun h' z' o' j1 j2 pr kk => wpAny_pure ?_) (F.args_zip_next_1 _))))
    have I1 : Inv X pins σ H { s with heap := h' } := I.turnedAll (t' := s.toks) (ch := [z, to, i1, i2]) (fun c hc => hf c (fin c hc)) kk
    have nT : H s.heap.objs.size = none := I.hok.fresh (Nat.le_refl _)
    have fT : FpOk X pins H s.heap.objs.size := I.fpOk (Nat.le_refl _) nT
    have I2 : Inv X pins σ (upd H s.heap.objs.size (.tup [x, y])) { s with heap := h' } := I1.track fT ⟨by show 2 ≤ sizeLine; decide, [u, u'], .cons ru (.cons ru' .nil), ⟨_, pr, rfl, _, rfl⟩⟩
    have tiO : ti ∉ [z, to, i1, i2] := by
      intro q
      simp only [List.mem_cons, List.not_mem_nil, or_false] at q
      rcases q with q | q | q | q
      · exact S.ap.a1 q
      · exact S.ap.b1 q
      · exact S.ap.b2 q
      · exact S.ap.b3 q
    refine ⟨_, rfl, wpAny_letOwnedTupleGo_zip z' fun h2 z2 s2 => ?_⟩
    have fz := hf z (by simp)
    have ne : ∀ c ∈ [z, ti, to, i1, i2], c ≠ s.heap.objs.size := fun c hc q => by
      obtain ⟨p0, q0, e0⟩ := S.tO
      obtain ⟨o1, f1, _⟩ := S.j1
      obtain ⟨o2, f2, _⟩ := S.j2
      simp only [List.mem_cons, List.not_mem_nil, or_false] at hc
      rcases hc with rfl | rfl | rfl | rfl | rfl
      · exact absurd q (Nat.ne_of_lt (Heap.lt_size S.zz))
      · exact absurd q (Nat.ne_of_lt (Heap.lt_size S.tI))
      · exact absurd q (Nat.ne_of_lt (Heap.lt_size e0))
      · exact absurd q (Nat.ne_of_lt (Heap.lt_size f1))
      · exact absurd q (Nat.ne_of_lt (Heap.lt_size f2))
    have I3 := I2.turned (h' := h2) (t' := s.toks) (it := z) (fun c o hc e => (s2.2 c hc).trans e) (by rw [upd_ne (ne z (by simp))]; exact fz.1) fz.2.1 fz.2.2.2.1 fz.2.2.2.2.1 fz.2.2.2.2.2
    refine ⟨.ref s.heap.objs.size, _, I3, rfl, ⟨s.heap.objs.size, nT, rfl, ?_⟩, ?_, ?_⟩
    · intro xs' ys' x' y' ha' hb' hx' hy'
      rw [ha] at ha'; cases ha'
      rw [hb] at hb'; cases hb'
      rw [hx] at hx'; cases hx'
      rw [hy] at hy'; cases hy'
      rfl
    · refine ⟨S.ap, z2, (s2.2 ti S.ap.a1).trans (kk _ _ tiO S.tI), ⟨_, _, (s2.2 to S.ap.a2).trans o'⟩, ?_, ?_⟩
      · obtain ⟨o, e, r⟩ := j1; exact ⟨o, (s2.2 i1 S.ap.a3).trans e, r⟩
      · obtain ⟨o, e, r⟩ := j2; exact ⟨o, (s2.2 i2 S.ap.a4).trans e, r⟩
    · intro c hc
      rw [upd_ne (ne c hc)]
      exact (hf c hc).1
  done := by
    intro X hP hw hK hc i pins s σ H E I hf S hg
    subst hP hw hK
    obtain ⟨xs, ys, ha, hb, he⟩ := hg
    obtain ⟨its, rv, p, hz⟩ := I.tuple (SqT.of ha)
    obtain ⟨its', rv', p', hz'⟩ := I.tuple (SqT.of hb)
    have fin : ∀ c ∈ [z, to, i1, i2], c ∈ [z, ti, to, i1, i2] := fun c hc => by simp at hc ⊢; rcases hc with h | h | h | h <;> simp [h]
    have na : ∀ c ∈ [z, to, i1, i2], a ≠ c := fun c hc e => by subst e; rw [(hf a (fin a hc)).1] at ha; cases ha
    have nb : ∀ c ∈ [z, to, i1, i2], b ≠ c := fun c hc e => by subst e; rw [(hf b (fin b hc)).1] at hb; cases hb
    have hT : s.TypeIs (.ref z) "zip" := ⟨_, S.zz, rfl⟩
    have l1 := rv.length
    have l2 := rv'.length
    unfold pyNext
    refine wpAny_bind (wpAny_attempt (wpAny_callSpecial?_slot (name := Str.ofString "__next__") hT F.slot_zip_next (wpAny_call_entry F.slot_zip_next hT F.entry_zip_next (Zp.next_end (I.ok.hd hc) S p p' na nb (by
        rcases he with he | he
        · left; simp; omega
        · right; simp; omega) fun h' e kk ho => ?_) (F.args_zip_next_1 _))))
    obtain ⟨o, e1, e2⟩ := ho
    refine wpAny_bind (wpAny_isInstance (T := "StopIteration") (b := true) ⟨o, e1, e2⟩ isSubtype_stop ?_)
    exact wpAny_pure ⟨rfl, I.turnedAll (t' := s.toks) (ch := [z, to, i1, i2]) (fun c hc => hf c (fin c hc)) kk⟩
  self := fun _ _ _ _ _ S h => wpAny_pyIter_zip S.zz h

theorem zip_new (l1 l2 : Addr) (xs ys : Array Value) :
    Meets (Builtin.«zip.__new__» ⟨[.type "zip", .ref l1, .ref l2], []⟩) (fun _ R s => s.heap.IsTuple l1 xs ∧ s.heap.IsTuple l2 ys ∧ ∀ h1 h2 h3 h4 h5 : Heap, h1 = s.heap.push { cls := .type "tuple_iterator", data := .fields #[.ref l1, .int 0 0] } →
      h2 = h1.push { cls := .type "tuple_iterator", data := .fields #[.ref l2, .int 0 0] } → h3 = h2.push { cls := .type "tuple", data := .seq #[.ref s.heap.objs.size, .ref h1.objs.size] } → h4 = h3.push { cls := .type "tuple", data := .seq #[.none, .none] } →
      h5 = h4.push { cls := .type "zip", data := .fields #[.none, .bool false, .bool false, .ref h2.objs.size, .ref h3.objs.size] } → R (.ok (.ret (.ref h4.objs.size))) { s with heap := h5 }) :=
  .of_wp fun prog w A R s h => by
    obtain ⟨hp, g, d, tk, os⟩ := s
    obtain ⟨t1, t2, h⟩ := h
    have hsub := sub_zip
    have hL1 : Heap.IsTuple (Shared.heap ⟨hp, g, d, tk, os⟩) l1 xs := t1
    have hL2 : Heap.IsTuple (Shared.heap ⟨hp.push { cls := .type "tuple_iterator", data := .fields #[.ref l1, .int 0 0] }, g, d, tk, os⟩) l2 ys := Heap.IsTuple.push t2 _
    wp_walk using wpAny_pyIter_tuple hL1, wpAny_pyIter_tuple hL2
    exact ⟨_, rfl, h _ _ _ _ _ rfl rfl rfl rfl rfl⟩

def zipK (R : It → Hp → Prop) (vs : List V) (H1 : Hp) : Prop := match vs with
  | [.ref a, .ref b] => (∃ xs ys, H1 a = some (.tup xs) ∧ H1 b = some (.tup ys)) ∧ R (Itz a b) H1
  | _ => False
theorem zipK_of {R : It → Hp → Prop} {vs : List V} {H1 : Hp} (h : zipK R vs H1) : ∃ a b xs ys, vs = [.ref a, .ref b] ∧ H1 a = some (.tup xs) ∧ H1 b = some (.tup ys) ∧ R (Itz a b) H1 := by
  unfold zipK at h
  split at h
  · obtain ⟨⟨xs, ys, h1, h2⟩, q⟩ := h
    exact ⟨_, _, xs, ys, rfl, h1, h2, q⟩
  · exact h.elim
def iZip (ta : TA) : TI := fun σ H R => ta σ H (zipK R)
theorem pi_zip {X : Cx} {a b : Expr} {ta : TA} {p pos pos' : Pos} {es : List Expr} {k : Nat} (hg : Gl X "zip") (hm : X.mg "zip" = none) (ha : PA X [a, b] ta) (hs : starEach [a, b] X.env = [(false, eval a X.env), (false, eval b X.env)] := by with_unfolding_all rfl) (hs2 : starEach [b] X.env = [(false, eval b X.env)] := by with_unfolding_all rfl) :
    PI X (.Tuple es k pos') (.Call (.Name "zip" p) [a, b] [] pos) (iZip ta) := by
  intro pins s σ H R I h
  refine Call_ (ld_blt I hg hm boot_zip' (PyProof.Rows.callWith_type1 (thn (ha pos pins s σ H _ I h) fun us s1 ⟨vs, H1, I1, r1, q1⟩ => ?_) (by rw [hs, hs2]) (by rw [hs2]; rfl)))
  obtain ⟨a, b, xs, ys, e, hxa, hyb, q⟩ := zipK_of q1
  subst e
  obtain ⟨u1, u2, rfl, r, r'⟩ := vals2 r1
  cases r
  cases r'
  obtain ⟨its, rv, p1, hz⟩ := I1.tuple (SqT.of hxa)
  obtain ⟨its', rv', p2, hz'⟩ := I1.tuple (SqT.of hyb)
  refine callType_new F.called_zip (by decide) (F.typeCall_zip_2 _ _) (F.newCall_zip_2 _ _) (fun obj => F.args_object_init_3 obj _ _) F.entry_zip_new (zip_new a b _ _) ⟨p1, p2, ?_⟩
  intro h1 h2 h3 h4 h5 e1 e2 e3 e4 e5
  have z1 : h1.objs.size = s1.heap.objs.size + 1 := by rw [e1, Heap.size_push]
  have z2 : h2.objs.size = s1.heap.objs.size + 2 := by rw [e2, Heap.size_push, z1]
  have z3 : h3.objs.size = s1.heap.objs.size + 3 := by rw [e3, Heap.size_push, z2]
  have z4 : h4.objs.size = s1.heap.objs.size + 4 := by rw [e4, Heap.size_push, z3]
  have k1 : ∀ c o, s1.heap.get? c = some o → h1.get? c = some o := fun c o e => by rw [e1]; exact Heap.get?_push_of_some _ e
  have k2 : ∀ c o, h1.get? c = some o → h2.get? c = some o := fun c o e => by rw [e2]; exact Heap.get?_push_of_some _ e
  have k3 : ∀ c o, h2.get? c = some o → h3.get? c = some o := fun c o e => by rw [e3]; exact Heap.get?_push_of_some _ e
  have k4 : ∀ c o, h3.get? c = some o → h4.get? c = some o := fun c o e => by rw [e4]; exact Heap.get?_push_of_some _ e
  have k5 : ∀ c o, h4.get? c = some o → h5.get? c = some o := fun c o e => by rw [e5]; exact Heap.get?_push_of_some _ e
  have g1 : h5.get? s1.heap.objs.size = some _ := k5 _ _ (k4 _ _ (k3 _ _ (k2 _ _ (by rw [e1]; exact Heap.get?_push_size _ rfl))))
  have g2 : h5.get? h1.objs.size = some _ := k5 _ _ (k4 _ _ (k3 _ _ (by rw [e2]; exact Heap.get?_push_size _ rfl)))
  have g3 : h5.get? h2.objs.size = some _ := k5 _ _ (k4 _ _ (by rw [e3]; exact Heap.get?_push_size _ rfl))
  have g4 : h5.get? h3.objs.size = some _ := k5 _ _ (by rw [e4]; exact Heap.get?_push_size _ rfl)
  have g5 : h5.get? h4.objs.size = some { cls := .type "zip", data := .fields #[.none, .bool false, .bool false, .ref h2.objs.size, .ref h3.objs.size] } := by rw [e5]; exact Heap.get?_push_size _ rfl
  have S : Zp.St h4.objs.size h2.objs.size h3.objs.size s1.heap.objs.size h1.objs.size a b 0 h5 := by
    refine ⟨⟨?_, ?_, ?_, ?_, ?_, ?_, ?_, ?_, ?_, ?_⟩, g5, g3, ⟨_, _, g4⟩, ⟨_, g1, rfl, rfl⟩, ⟨_, g2, rfl, rfl⟩⟩ <;> (intro q; have q : (_ : Nat) = (_ : Nat) := q; omega)
  refine ⟨⟨_, g5, rfl⟩, wpAny_pyIter_zip S.zz ?_⟩
  have I2 : Inv X pins σ H1 { s1 with heap := h5 } := I1.kept (t' := s1.toks) fun c o e => k5 _ _ (k4 _ _ (k3 _ _ (k2 _ _ (k1 _ _ e))))
  refine ⟨h4.objs.size, [h4.objs.size, h2.objs.size, h3.objs.size, s1.heap.objs.size, h1.objs.size], _, _, H1, rfl, I2, turn_zip _ _ _ _ _ a b, S, fun c hc => ?_, q⟩
  have hle : s1.heap.objs.size ≤ c := by
    simp only [List.mem_cons, List.not_mem_nil, or_false] at hc
    rcases hc with q | q | q | q | q <;> (rw [q]; omega)
  exact I1.fpOk hle (I1.hok.fresh hle)
end L2

namespace L2
open PySem PySem.Spec PyProof.Rows
theorem boot_tuple' : bootBuiltins "tuple" = some (.type "tuple") := by decide +kernel
theorem boot_list' : bootBuiltins "list" = some (.type "list") := by decide +kernel
theorem boot_int' : bootBuiltins "int" = some (.type "int") := by decide +kernel
theorem boot_bool' : bootBuiltins "bool" = some (.type "bool") := by decide +kernel
theorem boot_str' : bootBuiltins "str" = some (.type "str") := by decide +kernel
theorem boot_isinstance' : bootBuiltins "isinstance" = some (.builtin "isinstance") := by decide +kernel
theorem boot_min' : bootBuiltins "min" = some (.builtin "min") := by decide +kernel
theorem boot_max' : bootBuiltins "max" = some (.builtin "max") := by decide +kernel
theorem boot_sorted' : bootBuiltins "sorted" = some (.builtin "sorted") := by decide +kernel
theorem boot_set' : bootBuiltins "set" = some (.type "set") := by decide +kernel
/-- the built-in names that nobody gives another meaning -/
structure Mods (mg : Str → Option Value) : Prop where
  len : mg "len" = none
  isinstance : mg "isinstance" = none
  int : mg "int" = none
  bool : mg "bool" = none
  tuple : mg "tuple" = none
  list : mg "list" = none
  range : mg "range" = none
  zip : mg "zip" = none
  min : mg "min" = none
  max : mg "max" = none
  sorted : mg "sorted" = none
  set : mg "set" = none
/-- a def of the text's top -/
def Def (K : PySem.W.Frag) (mg : Str → Option Value) (x : Str) (st : Stmt) : Prop := ∃ f fd, Fun K x x st f fd ∧ mg x = some (.ref f)
/-- .. that keeps its promise -/
def Cal (P : Program) (w : World) (K : PySem.W.Frag) (mg : Str → Option Value) (base : Heap) (x : Str) (k : Nat) (ps : List Str) (sp : Sp) : Prop :=
  ∃ f fd, FnOk P w K mg base CX0 k f fd ps sp ∧ mg x = some (.ref f) ∧ PySem.W.keepIn K (.ref f) = true ∧ Binds K fd ps []
section
variable {X : Cx} {x : Str} {k : Nat} {ps : List Str} {sp : Sp} {p pos : Pos} {e : Expr} {es : List Expr} {t : TA}
theorem pe_cal (c : Cal X.prog X.w X.K X.mg X.base x k ps sp) (hr : Room k X.A) (ha : PA X (e :: es) t) (hg : Gl X x := by with_unfolding_all rfl) (hdb : (x == ("__debug__" : Str)) = false := by decide)
    (he : starEach (e :: es) X.env = (false, eval e X.env) :: starEach es X.env := by with_unfolding_all rfl) (hpl : (backTo pos (starEach es X.env)).any (·.1) = false := by with_unfolding_all rfl) : PE X (.Call (.Name x p) (e :: es) [] pos) (tCall sp [] E0 t) := by
  obtain ⟨f, fd, F, hm, hk, hb⟩ := c
  exact pe_call F hr hg hm hk hb .nil pass0 ha hdb he hpl
theorem pe_cal0 (c : Cal X.prog X.w X.K X.mg X.base x k ps sp) (hr : Room k X.A) (hg : Gl X x := by with_unfolding_all rfl) (hdb : (x == ("__debug__" : Str)) = false := by decide) : PE X (.Call (.Name x p) [] [] pos) (tCall sp [] E0 tNil) := by
  obtain ⟨f, fd, F, hm, hk, hb⟩ := c
  exact pe_call0 F hr hg hm hk hb .nil pass0 hdb
end
section
variable {P : Program} {w : World} {K : PySem.W.Frag} {mg : Str → Option Value} {base : Heap}
/-- THE RULE for a def of the top -/
theorem Def.ok {x : Str} {st : Stmt} {N ps : List Str} {k : Nat} {sp : Sp} (d : Def K mg x st) (S : FnScope N ps (defScope st)) (len : ∀ vs H Q E, sp vs H Q E → vs.length = ps.length)
    (hb : ∀ (kV doc pm : Value) (an : Option Addr) (cdv ct : Value) (us : List Value), us.length = ps.length → bindArgs (PySem.W.fnOf x x (defArgs st) (defBody st) (defScope st) .none kV doc pm an cdv ct) ⟨us, []⟩ = pure (ps.zip us))
    (hbody : ∀ (f : Addr) (cdv : Value) (A : Around) (outer : List Env) (s : Shared) (H : Hp) (vs : List V) (Q : VK) (E : XK), Room k (A.deeper (envOfC x (defScope st) s.heap.objs.size f cdv)) → sp vs H Q E →
      ∃ t, PSs (cxOf CX0 P w K mg base N x (defScope st) f cdv A outer s H E).nox (defBody st) t ∧ t { nx := fun _ H' => Q .non H', rt := Q } (start N vs) H) : Cal P w K mg base x (k + 1) ps sp := by
  obtain ⟨f, fd, F, hm⟩ := d
  exact ⟨f, fd, F.ok S len (hbody f), hm, F.kp, F.binds hb⟩
end
theorem hu52 {A : Around} {k : Nat} (hr : Room k A) : A.units + 52 < cLine := Nat.lt_of_le_of_lt (Nat.add_le_add_left (by decide : 52 ≤ 64) _) hr.units
end L2

namespace L2
open PySem PySem.Spec PyProof.Rows
/-! ### the readings as functions of the abstract heap -/
/-- the items of a list or a tuple -/
def seqAt (H : Hp) : V → Option (List V)
  | .ref a => match H a with
    | some (.lst xs) => some xs
    | some (.tup xs) => some xs
    | some (.frz _ (.lst xs)) => some xs
    | _ => none
  | _ => none
def lstAt (H : Hp) : V → Option (List V)
  | .ref a => match H a with
    | some (.lst xs) => some xs
    | some (.frz _ (.lst xs)) => some xs
    | _ => none
  | _ => none
def tupAt (H : Hp) : V → Option (List V)
  | .ref a => match H a with
    | some (.tup xs) => some xs
    | _ => none
  | _ => none
/-- P of what is there -/
def on {α : Type} (o : Option α) (P : α → Prop) : Prop := match o with
  | some x => P x
  | none => False
theorem on_of {α : Type} {o : Option α} {P : α → Prop} (h : on o P) : ∃ x, o = some x ∧ P x := by
  cases o with
  | none => exact h.elim
  | some x => exact ⟨x, rfl, h⟩
theorem on_some {α : Type} {x : α} {P : α → Prop} : on (some x) P = P x := rfl
theorem lstAt_of {K : PySem.W.Frag} {H : Hp} {v : V} {xs : List V} (h : lstAt H v = some xs) : ∃ a, v = .ref a ∧ SqL K H a xs := by
  cases v with
  | ref a =>
    simp only [lstAt] at h
    split at h
    · cases h; exact ⟨a, rfl, .inl (.inl ‹_›)⟩
    · cases h; exact ⟨a, rfl, .inl (.inr ⟨_, ‹_›⟩)⟩
    · cases h
  | _ => cases h
theorem tupAt_of {K : PySem.W.Frag} {H : Hp} {v : V} {xs : List V} (h : tupAt H v = some xs) : ∃ a, v = .ref a ∧ H a = some (.tup xs) ∧ SqT K H a xs := by
  cases v with
  | ref a =>
    simp only [tupAt] at h
    split at h
    · cases h; exact ⟨a, rfl, ‹_›, SqT.of ‹_›⟩
    · cases h
  | _ => cases h
theorem seqAt_of {K : PySem.W.Frag} {H : Hp} {v : V} {xs : List V} (h : seqAt H v = some xs) : ∃ a, v = .ref a ∧ (SqL K H a xs ∨ SqT K H a xs) := by
  cases v with
  | ref a =>
    simp only [seqAt] at h
    split at h
    · cases h; exact ⟨a, rfl, .inl (.inl (.inl ‹_›))⟩
    · cases h; exact ⟨a, rfl, .inr (SqT.of ‹_›)⟩
    · cases h; exact ⟨a, rfl, .inl (.inl (.inr ⟨_, ‹_›⟩))⟩
    · cases h
  | _ => cases h
theorem seqAt_lst {H : Hp} {a : Addr} {xs : List V} (h : H a = some (.lst xs)) : seqAt H (.ref a) = some xs := by simp [seqAt, h]
theorem seqAt_tup {H : Hp} {a : Addr} {xs : List V} (h : H a = some (.tup xs)) : seqAt H (.ref a) = some xs := by simp [seqAt, h]
theorem lstAt_lst {H : Hp} {a : Addr} {xs : List V} (h : H a = some (.lst xs)) : lstAt H (.ref a) = some xs := by simp [lstAt, h]
theorem tupAt_tup {H : Hp} {a : Addr} {xs : List V} (h : H a = some (.tup xs)) : tupAt H (.ref a) = some xs := by simp [tupAt, h]
theorem gCons_cons {t : TG} {u : TGs} {v : V} {r : List V} {σ : St} {H : Hp} {Q : St → Hp → Prop} : gCons t u (v :: r) σ H Q = t v σ H fun σ' H' => u r σ' H' Q := by
  unfold gCons
  refine propext ⟨fun h => ?_, fun h => ⟨v, r, rfl, h⟩⟩
  obtain ⟨v', r', e, h⟩ := h
  cases e
  exact h
theorem gNil_nil {σ : St} {H : Hp} {Q : St → Hp → Prop} : gNil [] σ H Q = Q σ H := by
  unfold gNil
  simp
section
variable {X : Cx}
def rLenF : List V → Hp → VK → Prop := fun xs H Q => match xs with
  | [x] => on (seqAt H x) fun ys => Q (.int ys.length) H
  | _ => False
theorem call_lenF : CallR X (.builtin "len") rLenF := by
  intro pins s σ H xs us Q I r h
  unfold rLenF at h
  split at h
  · obtain ⟨ys, e, q⟩ := on_of h
    obtain ⟨a, rfl, hs⟩ := seqAt_of (K := X.K) e
    exact call_len_seq pins s σ H _ us Q I r ⟨a, ys, rfl, hs, q⟩
  · exact h.elim
/-- xs[i] of a list or a tuple -/
def rIxF : R2 := fun x y H Q => match y with
  | .int i => on (seqAt H x) fun xs => on (atI xs i) fun v => Q v H
  | _ => False
theorem ix_F : IxR X rIxF := by
  intro ve se pins s σ H x y v u Q I rx ry h hsub
  unfold rIxF at h
  split at h
  · obtain ⟨xs, e, h⟩ := on_of h
    obtain ⟨w', e', q⟩ := on_of h
    obtain ⟨a, rfl, hs⟩ := seqAt_of (K := X.K) e
    rcases hs with hs | hs
    · exact ix_list ve se pins s σ H _ _ v u Q I rx ry ⟨a, xs, _, w', rfl, rfl, hs, e', q⟩ hsub
    · exact ix_tup ve se pins s σ H _ _ v u Q I rx ry ⟨a, xs, _, w', rfl, rfl, hs, e', q⟩ hsub
  · exact h.elim
/-- (a, b, ..) = a tuple -/
def gTupF (t : TGs) (n : Nat) : TG := fun v σ H Q => on (tupAt H v) fun xs => xs.length = n ∧ t xs σ H Q
theorem pg_tupF {es : List Expr} {k : Nat} {t : TGs} {n : Nat} {pos : Pos} (hc : X.calm = true) (h : PGs X es t)
    (hn : (assignEach es X.env).length = n := by with_unfolding_all rfl) (hst : (assignEach es X.env).findIdx? (·.1) = none := by with_unfolding_all rfl) : PG X (.Tuple es k pos) (gTupF t n) := by
  intro pins s σ H v u Q I r hw
  obtain ⟨xs, e, hl, q⟩ := on_of hw
  obtain ⟨a, rfl, _, hs⟩ := tupAt_of (K := X.K) e
  exact pg_tup hc h hn hst pins s σ H _ u Q I r ⟨a, xs, rfl, hs, hl, q⟩
/-- x in xs: flat items -/
def rInF (neg : Bool) : R2 := fun x y H Q => on (seqAt H y) fun xs => flatV x = true ∧ xs.all flatV = true ∧ Q (.bl (if neg then !inV x xs else inV x xs)) H
theorem op_inF : OpR X (compareOp .In) (rInF false) := by
  intro pins s σ H x y v u Q I rx ry h
  obtain ⟨xs, e, h1, h2, q⟩ := on_of h
  obtain ⟨a, rfl, hs⟩ := seqAt_of (K := X.K) e
  exact op_in_seq pins s σ H _ _ v u Q I rx ry ⟨a, xs, rfl, hs, h1, h2, q⟩
theorem op_notInF : OpR X (compareOp .NotIn) (rInF true) := by
  intro pins s σ H x y v u Q I rx ry h
  obtain ⟨xs, e, h1, h2, q⟩ := on_of h
  obtain ⟨a, rfl, hs⟩ := seqAt_of (K := X.K) e
  exact op_notIn_seq pins s σ H _ _ v u Q I rx ry ⟨a, xs, rfl, hs, h1, h2, q⟩
/-- tuple(xs) -/
def rTupleF : List V → Hp → VK → Prop := fun xs H Q => match xs with
  | [x] => on (seqAt H x) fun ys => (∀ l, H l = none → Q (.ref l) (upd H l (.tup ys))) ∧ (tupAt H x = some ys → Q x H)
  | _ => False
theorem call_tupleF : CallR X (.type "tuple") rTupleF := by
  intro pins s σ H xs us Q I r h
  unfold rTupleF at h
  split at h
  · rename_i x
    obtain ⟨ys, e, h1, h2⟩ := on_of h
    cases x with
    | ref a =>
      simp only [seqAt] at e
      split at e
      · cases e; exact call_tuple_of pins s σ H _ us Q I r ⟨a, _, rfl, .inl ⟨.inl (.inl ‹_›), h1⟩⟩
      · cases e; exact call_tuple_of pins s σ H _ us Q I r ⟨a, _, rfl, .inr ⟨SqT.of ‹_›, h2 (tupAt_tup ‹_›)⟩⟩
      · cases e; exact call_tuple_of pins s σ H _ us Q I r ⟨a, _, rfl, .inl ⟨.inl (.inr ⟨_, ‹_›⟩), h1⟩⟩
      · cases e
    | _ => cases e
  · exact h.elim
/-- xs[lo:hi] of a list -/
def rSlLF : V → Option Int → Option Int → Hp → VK → Prop := fun x lo hi H Q => on (lstAt H x) fun xs => ∀ p, H p = none → Q (.ref p) (upd H p (.lst (cutV xs lo hi)))
theorem sl_listF : SlR X rSlLF := by
  intro pins s σ H x v vl vu lo hi sl Q I rx hs pl pu h
  obtain ⟨xs, e, q⟩ := on_of h
  obtain ⟨a, rfl, hq⟩ := lstAt_of (K := X.K) e
  exact sl_list pins s σ H _ v vl vu lo hi sl Q I rx hs pl pu ⟨a, xs, rfl, hq, q⟩
def rSlTF : V → Option Int → Option Int → Hp → VK → Prop := fun x lo hi H Q => on (tupAt H x) fun xs => (∀ p, H p = none → Q (.ref p) (upd H p (.tup (cutV xs lo hi)))) ∧ (cutV xs lo hi = xs → Q x H)
theorem sl_tupF : SlR X rSlTF := by
  intro pins s σ H x v vl vu lo hi sl Q I rx hs pl pu h
  obtain ⟨xs, e, q1, q2⟩ := on_of h
  obtain ⟨a, rfl, ha, _⟩ := tupAt_of (K := X.K) e
  exact sl_tupD pins s σ H _ v vl vu lo hi sl Q I rx hs pl pu ⟨a, xs, rfl, ha, q1, q2⟩
/-- xs.append(y) -/
def rAppendF : V → List V → Hp → VK → Prop := fun x vs H Q => match x, vs with
  | .ref l, [y] => (match H l with
    | some (.lst xs) => xs.length < sizeLine ∧ Q .non (upd H l (.lst (xs ++ [y])))
    | _ => False)
  | _, _ => False
theorem mt_appendF : MtM X "list.append" rAppendF := by
  intro pins s σ H x vs v us Q I rx rv h
  unfold rAppendF at h
  split at h
  · split at h
    · exact mt_append pins s σ H _ _ v us Q I rx rv ⟨_, _, _, rfl, rfl, ‹_›, h.1, h.2⟩
    · exact h.elim
  · exact h.elim
/-- list + list -/
def rCatF : R2 := fun x y H Q => match x, y with
  | .ref l, .ref b => (match H l, H b with
    | some (.lst xs), some (.lst zs) => xs.length + zs.length ≤ sizeLine ∧ ∀ p, H p = none → Q (.ref p) (upd H p (.lst (xs ++ zs)))
    | _, _ => False)
  | _, _ => False
theorem op_catF : OpR X (binaryOp .Add) rCatF := by
  intro pins s σ H x y v u Q I rx ry h
  unfold rCatF at h
  split at h
  · split at h
    · exact op_cat pins s σ H _ _ v u Q I rx ry ⟨_, _, _, _, rfl, rfl, ‹_›, ‹_›, h.1, h.2⟩
    · exact h.elim
  · exact h.elim
/-- tuple + tuple -/
def rCatTF : R2 := fun x y H Q => on (tupAt H x) fun xs => on (tupAt H y) fun ys => xs.length + ys.length ≤ sizeLine ∧ (xs = [] → Q y H) ∧ (ys = [] → Q x H) ∧ ∀ p, H p = none → Q (.ref p) (upd H p (.tup (xs ++ ys)))
theorem op_catTF : OpR X (binaryOp .Add) rCatTF := by
  intro pins s σ H x y v u Q I rx ry h
  obtain ⟨xs, e, h⟩ := on_of h
  obtain ⟨ys, e', h1, h2, h3, h4⟩ := on_of h
  obtain ⟨a, rfl, ha, _⟩ := tupAt_of (K := X.K) e
  obtain ⟨b, rfl, hb, _⟩ := tupAt_of (K := X.K) e'
  exact op_catD pins s σ H _ _ v u Q I rx ry ⟨a, b, xs, ys, rfl, rfl, ha, hb, h1, h2, h3, h4⟩
/-! dicts -/
def keyV : V → Option Key
  | .int i => some (.inl i)
  | .str x => some (.inr x)
  | _ => none
theorem keyV_of {y : V} {k : Key} (h : keyV y = some k) : y = kV k := by
  cases y <;> cases h <;> rfl
def dctAt (H : Hp) : V → Option (List (Key × V))
  | .ref a => match H a with
    | some (.dK kvs) => some kvs
    | _ => none
  | _ => none
theorem dctAt_of {H : Hp} {v : V} {kvs : List (Key × V)} (h : dctAt H v = some kvs) : ∃ a, v = .ref a ∧ H a = some (.dK kvs) := by
  cases v with
  | ref a =>
    simp only [dctAt] at h
    split at h
    · cases h; exact ⟨a, rfl, ‹_›⟩
    · cases h
  | _ => cases h
theorem dctAt_dK {H : Hp} {a : Addr} {kvs : List (Key × V)} (h : H a = some (.dK kvs)) : dctAt H (.ref a) = some kvs := by simp [dctAt, h]
def tDGetF (td ty : TE) : TE := fun σ H Q => td σ H fun x H1 => ty σ H1 fun y H2 => on (dctAt H2 x) fun kvs => on (keyV y) fun k => on (valV kvs k) fun v => Q v H2
theorem pe_dgetF {o i : Expr} {td ty : TE} {pos : Pos} (hu : X.A.units + 1 < cLine) (ho : PE X o td) (hi : PE X i ty) (hs : NoSl i) : PE X (.Subscript o i pos) (tDGetF td ty) := by
  intro pins s σ H Q I h
  refine subD_of PySem.F.slot_dict_getitem.lookup hs (thn (ho pins s σ H _ I h) fun u s1 ⟨x, H1, I1, rx, q1⟩ => thn (hi pins s1 σ H1 _ I1 q1) fun iv s2 ⟨y, H2, I2, ry, q2⟩ => ?_)
  obtain ⟨kvs, e, q3⟩ := on_of q2
  obtain ⟨k, ek, q4⟩ := on_of q3
  obtain ⟨v, ev, q5⟩ := on_of q4
  obtain ⟨a, rfl, ha⟩ := dctAt_of e
  have ey := keyV_of ek
  subst ey
  obtain rfl : u = Value.ref a := rx
  have g : DGet H2 a (kV k) (some v) := by rw [← ev]; exact DGet.k ha
  exact ⟨dict_typeIs I2 g, d_getItem hu I2 g ry fun w' s3 I3 rw' => ⟨v, H2, I3, rw', q5⟩⟩
def sDPutF (td ty tv : TE) : TS := fun Dd σ H => tv σ H fun v H1 => td σ H1 fun x H2 => ty σ H2 fun y H3 => match x with
  | .ref a => on (dctAt H3 x) fun kvs => on (keyV y) fun k => kvs.length < sizeLine ∧ Dd.nx σ (upd H3 a (.dK (putK kvs k v)))
  | _ => False
theorem ps_dputF {o i value : Expr} {td ty tv : TE} {pos pos' : Pos} (hu : X.A.units + 1 < cLine) (ho : PE X o td) (hi : PE X i ty) (hv : PE X value tv) (hs : swapsWith value (some (.Subscript o i pos')) pos.line X.env = pure false) :
    PS X (.Assign [.Subscript o i pos'] value pos) (sDPutF td ty tv) := by
  intro pins s σ H Dd I h
  refine wpAny_Assign_Subscript (thn (hv pins s σ H _ I h) fun r s1 ⟨v, H1, I1, rv, q1⟩ => thn (ho pins s1 σ H1 _ I1 q1) fun u s2 ⟨x, H2, I2, rx, q2⟩ => thn (hi pins s2 σ H2 _ I2 q2) fun iv s3 ⟨y, H3, I3, ry, q3⟩ => ?_) hs
  cases x with
  | ref a =>
    obtain ⟨kvs, e, q4⟩ := on_of q3
    obtain ⟨k, ek, hl, q5⟩ := on_of q4
    obtain ⟨a', ea, ha⟩ := dctAt_of e
    cases ea
    have ey := keyV_of ek
    subst ey
    obtain rfl : u = Value.ref a := rx
    exact d_setItem hu I3 (DPut.k ha hl) ry rv fun s4 I4 => ⟨σ, _, I4, q5⟩
  | _ => exact q3.elim
/-- d.get(k, x) -/
def tDGet2F (td ty tx : TE) : TE := fun σ H Q => td σ H fun x H1 => on (dctAt H1 x) fun _ => ty σ H1 fun y H2 => tx σ H2 fun z H3 => on (dctAt H3 x) fun kvs => on (keyV y) fun k => Q ((valV kvs k).getD z) H3
theorem pe_dget2F {o e f : Expr} {td ty tx : TE} {apos cpos : Pos} (hu : X.A.units + 1 < cLine) (ho : PE X o td) (he : PE X e ty) (hf : PE X f tx) (m : M2 X o "get" apos e f cpos) : PE X (.Call (.Attribute o "get" apos) [e, f] [] cpos) (tDGet2F td ty tx) := by
  intro pins s σ H Q I h
  refine wpAny_Call_method m.base m.few m.line PySem.F.plainAttrs_dict PySem.F.slot_dict_get PySem.F.type_dict_get (thn (ho pins s σ H _ I h) fun u s1 ⟨x, H1, I1, rx, q1⟩ => ?_)
  obtain ⟨kvs, e1, q1⟩ := on_of q1
  obtain ⟨a, rfl, ha⟩ := dctAt_of e1
  obtain rfl : u = Value.ref a := rx
  obtain ⟨t1, t2, _⟩ := isD_at I1 (.inl ⟨kvs, .inl ha⟩)
  refine ⟨t1, t2, ?_⟩
  rw [m.trees]
  refine Calls.callWith_builtin rfl (Calls.evalArgs_plain (Calls.spliced_cons (thn (he pins s1 σ H1 _ I1 q1) fun iv s2 ⟨y, H2, I2, ry, q2⟩ => Calls.spliced_cons (thn (hf pins s2 σ H2 _ I2 q2) fun fv s3 ⟨z, H3, I3, rz, q3⟩ => Calls.spliced_nil ?_))))
  obtain ⟨kvs', e2, q4⟩ := on_of q3
  obtain ⟨k, ek, q5⟩ := on_of q4
  obtain ⟨a', ea, ha'⟩ := dctAt_of e2
  cases ea
  have ey := keyV_of ek
  subst ey
  exact d_get2 hu I3 (DGet.k ha') ry rz fun w' s4 I4 rw' => ⟨_, H3, I4, rw', q5⟩
/-- the truth of a value -/
def truF (H : Hp) : V → Option Bool
  | .non => some false
  | .bl b => some b
  | .int i => some (i != 0)
  | .ref a => match H a with
    | some (.lst xs) => some !xs.isEmpty
    | some (.tup xs) => some !xs.isEmpty
    | some (.frz _ (.lst xs)) => some !xs.isEmpty
    | some (.dK kvs) => some !kvs.isEmpty
    | _ => none
  | _ => none
def tTruth (ta : TE) : TT := fun σ H Q => ta σ H fun x H1 => on (truF H1 x) fun b => Q b H1
theorem pt_truF {a : Expr} {ta : TE} (ha : PE X a ta) (he : ∀ whole, isTrue a X.env whole = (do let v ← whole; standAt a.pos; holding [v] (truthy v)) := by with_unfolding_all (intro _; rfl)) : PT X a (tTruth ta) := by
  intro pins s σ H Q I h
  refine isTrue_plain (thn (ha pins s σ H _ I h) fun v s1 ⟨x, H1, I1, r1, q1⟩ => tru_ok pins s1 σ H1 x v Q I1 r1 ?_) (he _)
  obtain ⟨b, e, q⟩ := on_of q1
  refine ⟨b, ?_, q⟩
  cases x with
  | non => cases e; rfl
  | bl b => cases e; rfl
  | int i => cases e; rfl
  | ref a =>
    simp only [truF] at e
    split at e
    · cases e; exact .inl ⟨_, .inl (.inl ‹_›), rfl⟩
    · cases e; exact .inr (.inl ⟨_, SqT.of ‹_›, rfl⟩)
    · cases e; exact .inl ⟨_, .inl (.inr ⟨_, ‹_›⟩), rfl⟩
    · cases e; exact .inr (.inr ⟨_, ‹_›, rfl⟩)
    · cases e
  | _ => cases e
end

/-! ### loops -/
/-- a loop over J from here on -/
def ForK (J : It) (g : TG) (tb : TS) (Dd : Ends) (σ : St) (H : Hp) : Prop := ∃ W : Nat → Nat → St → Hp → Prop, (∃ m, W 0 m σ H) ∧ ∀ i m σ H, W i m σ H →
  (J.stop i H ∧ Dd.nx σ H) ∨ (J.go i H ∧ ∃ N : St → Hp → Prop, (∀ σ' H', N σ' H' → ∃ m', m' < m ∧ W (i + 1) m' σ' H') ∧ ∀ x H', J.yld i H x H' → g x σ H' fun σ2 H2 => tb { Dd with nx := N, ct := N, bk := Dd.nx } σ2 H2)
theorem tFor_eq {wi : TI} {g : TG} {tb : TS} {Dd : Ends} {σ : St} {H : Hp} : tFor wi g tb Dd σ H = wi σ H (fun J H1 => ForK J g tb Dd σ H1) := rfl
theorem for_zip {a b : Addr} {xs ys : List V} {g : TG} {tb : TS} {Dd : Ends} {σ : St} {H : Hp} (Pv : Nat → St → Hp → Prop) (h0 : Pv 0 σ H) (hl : ∀ i σ H, Pv i σ H → H a = some (.tup xs) ∧ H b = some (.tup ys))
    (hs : ∀ i x y T σ H, xs[i]? = some x → ys[i]? = some y → H T = none → Pv i σ H → g (.ref T) σ (upd H T (.tup [x, y])) fun σ2 H2 => tb { Dd with nx := Pv (i + 1), ct := Pv (i + 1), bk := Dd.nx } σ2 H2)
    (hd : ∀ i σ H, (xs.length ≤ i ∨ ys.length ≤ i) → Pv i σ H → Dd.nx σ H) : ForK (Itz a b) g tb Dd σ H := by
  refine ⟨fun i m σ H => m = xs.length - i ∧ Pv i σ H, ⟨xs.length, by simp, h0⟩, ?_⟩
  rintro i m σ H ⟨rfl, p⟩
  obtain ⟨ha, hb⟩ := hl i σ H p
  by_cases hlt : i < xs.length ∧ i < ys.length
  · obtain ⟨h1, h2⟩ := hlt
    refine .inr ⟨⟨xs, ys, xs[i], ys[i], ha, hb, by simp [h1], by simp [h2]⟩, Pv (i + 1), fun σ' H' p' => ⟨xs.length - (i + 1), by omega, rfl, p'⟩, fun x H' y => ?_⟩
    obtain ⟨T, hT, rfl, y⟩ := y
    have e := y xs ys xs[i] ys[i] ha hb (by simp [h1]) (by simp [h2])
    subst e
    exact hs i _ _ T σ H (by simp [h1]) (by simp [h2]) hT p
  · have e : xs.length ≤ i ∨ ys.length ≤ i := by omega
    exact .inl ⟨⟨xs, ys, ha, hb, e⟩, hd i σ H e p⟩
theorem for_tup' {K : PySem.W.Frag} {a : Addr} {xs : List V} {g : TG} {tb : TS} {Dd : Ends} {σ : St} {H : Hp} (Pv : Nat → St → Hp → Prop) (h0 : Pv 0 σ H) (hl : ∀ i σ H, i ≤ xs.length → Pv i σ H → SqT K H a xs)
    (hs : ∀ i x σ H, xs[i]? = some x → Pv i σ H → g x σ H fun σ2 H2 => tb { Dd with nx := Pv (i + 1), ct := Pv (i + 1), bk := Dd.nx } σ2 H2) (hd : ∀ σ H, Pv xs.length σ H → Dd.nx σ H) : ForK (Itt K a) g tb Dd σ H := for_tup Pv h0 hl hs hd
theorem for_list' {K : PySem.W.Frag} {a : Addr} {xs : List V} {g : TG} {tb : TS} {Dd : Ends} {σ : St} {H : Hp} (Pv : Nat → St → Hp → Prop) (h0 : Pv 0 σ H) (hl : ∀ i σ H, i ≤ xs.length → Pv i σ H → SqL K H a xs)
    (hs : ∀ i x σ H, xs[i]? = some x → Pv i σ H → g x σ H fun σ2 H2 => tb { Dd with nx := Pv (i + 1), ct := Pv (i + 1), bk := Dd.nx } σ2 H2) (hd : ∀ σ H, Pv xs.length σ H → Dd.nx σ H) : ForK (Itl K a) g tb Dd σ H := for_list Pv h0 hl hs hd
theorem for_range' {lo : Int} {n : Nat} {g : TG} {tb : TS} {Dd : Ends} {σ : St} {H : Hp} (Pv : Nat → St → Hp → Prop) (h0 : Pv 0 σ H)
    (hs : ∀ i σ H, i < n → Pv i σ H → g (.int (lo + i)) σ H fun σ2 H2 => tb { Dd with nx := Pv (i + 1), ct := Pv (i + 1), bk := Dd.nx } σ2 H2) (hd : ∀ σ H, Pv n σ H → Dd.nx σ H) : ForK (Itr lo n) g tb Dd σ H := for_range Pv h0 hs hd
theorem cutV_from1 (xs : List V) : cutV xs (some 1) none = xs.drop 1 := by
  unfold cutV
  have e : HT.sIx xs.length 0 (some 1) = min 1 xs.length := HT.sIx_nat xs.length 0 1
  rw [e, HT.sIx_none]
  cases xs with
  | nil => simp
  | cons x xs => simp [List.take_of_length_le]
end L2

namespace L2
open PySem PySem.Spec PyProof.Rows
/-! ### the readings, step by step (for simp only) -/
section
variable {σ : St} {H : Hp} {Q : VK} {Qb : Bool → Hp → Prop} {Qs : List V → Hp → Prop} {Dd : Ends} {ta tb tc : TE} {tt tu : TT} {ts tr : TS} {te : TA} {g : TG} {sp : Sp} {r : R2}
theorem tSeq_at : tSeq ts tr Dd σ H = ts { Dd with nx := tr Dd } σ H := rfl
theorem tNext_at : tNext Dd σ H = Dd.nx σ H := rfl
theorem tBreak_at : tBreak Dd σ H = Dd.bk σ H := rfl
theorem tCont_at : tCont Dd σ H = Dd.ct σ H := rfl
theorem tRet_at : tRet ta Dd σ H = ta σ H Dd.rt := rfl
theorem tRetN_at : tRetN Dd σ H = Dd.rt .non H := rfl
theorem tIfS_at : tIfS tt ts tr Dd σ H = tt σ H fun b H1 => if b = true then ts Dd σ H1 else tr Dd σ H1 := rfl
theorem tAsg_at : tAsg ta g Dd σ H = ta σ H fun x H1 => g x σ H1 Dd.nx := rfl
theorem tDrop_at : tDrop ta Dd σ H = ta σ H fun _ H1 => Dd.nx σ H1 := rfl
theorem tPar_at {i j : Nat} : tPar i j te Dd σ H = te σ H fun vs H1 => match vs with
    | [v, w] => Dd.nx ((σ.set i (some v)).set j (some w)) H1
    | _ => False := by
  unfold tPar
  congr 1
  funext vs H1
  refine propext ⟨fun h => ?_, fun h => ?_⟩
  · obtain ⟨v, w, rfl, h⟩ := h; exact h
  · split at h
    · exact ⟨_, _, rfl, h⟩
    · exact h.elim
theorem gName_at {i : Nat} {v : V} {Qg : St → Hp → Prop} : gName i v σ H Qg = Qg (σ.set i (some v)) H := rfl
theorem gTupF_at {t : TGs} {n : Nat} {v : V} {Qg : St → Hp → Prop} : gTupF t n v σ H Qg = on (tupAt H v) fun xs => xs.length = n ∧ t xs σ H Qg := rfl
theorem tVar_at {i : Nat} : tVar i σ H Q = on (σ[i]?.join) fun v => Q v H := by
  unfold tVar
  cases e : σ[i]? with
  | none => simp [on]
  | some o =>
    cases o with
    | none => simp [on]
    | some v => simp [on]
theorem tC_at {v : V} : tC v σ H Q = Q v H := rfl
theorem tOp_at : tOp r ta tb σ H Q = ta σ H fun x H1 => tb σ H1 fun y H2 => r x y H2 Q := rfl
theorem tUn_at {u : V → Hp → VK → Prop} : tUn u ta σ H Q = ta σ H fun x H1 => u x H1 Q := rfl
theorem tIf_at : tIf tt ta tb σ H Q = tt σ H fun c H1 => if c = true then ta σ H1 Q else tb σ H1 Q := rfl
theorem tAnd_at : tAnd tt tu σ H Qb = tt σ H fun c H1 => if c = true then tu σ H1 Qb else Qb false H1 := rfl
theorem tOr_at : tOr tt tu σ H Qb = tt σ H fun c H1 => if c = true then Qb true H1 else tu σ H1 Qb := rfl
theorem tNot_at : tNot tt σ H Qb = tt σ H fun c H1 => Qb (!c) H1 := rfl
/-- P of a truth -/
def onB (x : V) (P : Bool → Prop) : Prop := match x with
  | .bl b => P b
  | _ => False
theorem onB_bl {b : Bool} {P : Bool → Prop} : onB (.bl b) P = P b := rfl
theorem onB_eq {x : V} {P : Bool → Prop} : (∃ c, x = .bl c ∧ P c) = onB x P := by
  refine propext ⟨fun h => ?_, fun h => ?_⟩
  · obtain ⟨c, rfl, h⟩ := h; exact h
  · cases x with
    | bl b => exact ⟨b, rfl, h⟩
    | _ => exact h.elim
theorem tAndV_at : tAndV ta tb σ H Q = ta σ H fun x H1 => onB x fun c => if c = true then tb σ H1 Q else Q (.bl false) H1 := by
  unfold tAndV; congr 1; funext x H1; exact onB_eq
theorem tOrV_at : tOrV ta tb σ H Q = ta σ H fun x H1 => onB x fun c => if c = true then Q (.bl true) H1 else tb σ H1 Q := by
  unfold tOrV; congr 1; funext x H1; exact onB_eq
theorem tNotV_at : tNotV ta σ H Q = ta σ H fun x H1 => onB x fun c => Q (.bl (!c)) H1 := by
  unfold tNotV; congr 1; funext x H1; exact onB_eq
theorem tB_at : tB ta σ H Qb = ta σ H fun x H1 => onB x fun c => Qb c H1 := by
  unfold tB; congr 1; funext x H1; exact onB_eq
theorem tTest_at : tTest ta σ H Qb = ta σ H fun x H1 => onB x fun c => Qb c H1 := by
  unfold tTest; congr 1; funext x H1; exact onB_eq
theorem tIsN_at : tIsN ta σ H Q = ta σ H fun x H1 => Q (.bl (decide (x = .non))) H1 := rfl
theorem tNotN_at : tNotN ta σ H Q = ta σ H fun x H1 => Q (.bl (!decide (x = .non))) H1 := rfl
theorem tTruth_at : tTruth ta σ H Qb = ta σ H fun x H1 => on (truF H1 x) fun b => Qb b H1 := rfl
theorem tCB_at {u : List V → Hp → VK → Prop} : tCB u te σ H Q = te σ H fun vs H1 => u vs H1 Q := rfl
theorem tCall_at {dvs : List V} {E : XK} : tCall sp dvs E te σ H Q = te σ H fun vs H1 => sp (vs ++ dvs) H1 Q E := rfl
theorem tCons_at : tCons ta te σ H Qs = ta σ H fun x H1 => te σ H1 fun xs H2 => Qs (x :: xs) H2 := rfl
theorem tNil_at : tNil σ H Qs = Qs [] H := rfl
theorem tTup_at : tTup te σ H Q = te σ H fun xs H1 => xs.length ≤ sizeLine ∧ ∀ p, H1 p = none → Q (.ref p) (upd H1 p (.tup xs)) := rfl
theorem tLst_at : tLst te σ H Q = te σ H fun xs H1 => xs.length ≤ sizeLine ∧ ∀ p, H1 p = none → Q (.ref p) (upd H1 p (.lst xs)) := rfl
theorem rI0_at {f : Int → Int → V} {i j : Int} : rI0 f (.int i) (.int j) H Q = Q (f i j) H := by
  unfold rI0
  refine propext ⟨fun h => ?_, fun h => ⟨i, j, rfl, rfl, h⟩⟩
  obtain ⟨i', j', e1, e2, h⟩ := h
  cases e1; cases e2; exact h
theorem rI_at {C : Int → Int → Prop} {f : Int → Int → V} {i j : Int} : rI C f (.int i) (.int j) H Q = (C i j ∧ Q (f i j) H) := by
  unfold rI
  refine propext ⟨fun h => ?_, fun h => ⟨i, j, rfl, rfl, h⟩⟩
  obtain ⟨i', j', e1, e2, h⟩ := h
  cases e1; cases e2; exact h
theorem rU_at {f : Int → V} {i : Int} : rU f (.int i) H Q = Q (f i) H := by
  unfold rU
  refine propext ⟨fun h => ?_, fun h => ⟨i, rfl, h⟩⟩
  obtain ⟨i', e1, h⟩ := h
  cases e1; exact h
theorem rEq_at {x y : V} : rEq x y H Q = (scal x y = true ∧ Q (.bl (decide (x = y))) H) := rfl
theorem rNe_at {x y : V} : rNe x y H Q = (scal x y = true ∧ Q (.bl (!decide (x = y))) H) := rfl
theorem rIxF_at {x : V} {i : Int} : rIxF x (.int i) H Q = on (seqAt H x) fun xs => on (atI xs i) fun v => Q v H := rfl
theorem rLenF_at {x : V} : rLenF [x] H Q = on (seqAt H x) fun ys => Q (.int ys.length) H := rfl
theorem rInF_at {neg : Bool} {x y : V} : rInF neg x y H Q = on (seqAt H y) fun xs => flatV x = true ∧ xs.all flatV = true ∧ Q (.bl (if neg then !inV x xs else inV x xs)) H := rfl
theorem rTupleF_at {x : V} : rTupleF [x] H Q = on (seqAt H x) fun ys => (∀ l, H l = none → Q (.ref l) (upd H l (.tup ys))) ∧ (tupAt H x = some ys → Q x H) := rfl
theorem rIsi_at {x : V} {c : String} : rIsi [x, .ty c] H Q = on (tyN H x) fun n => on (isiN n c) fun b => Q (.bl b) H := by
  show (match tyN H x with
    | some n => (match isiN n c with
      | some b => Q (.bl b) H
      | none => False)
    | none => False) = _
  cases tyN H x with
  | none => rfl
  | some n =>
    show (match isiN n c with
      | some b => Q (.bl b) H
      | none => False) = on (isiN n c) fun b => Q (.bl b) H
    cases isiN n c <;> rfl
theorem tDGetF_at : tDGetF ta tb σ H Q = ta σ H fun x H1 => tb σ H1 fun y H2 => on (dctAt H2 x) fun kvs => on (keyV y) fun k => on (valV kvs k) fun v => Q v H2 := rfl
theorem tDGet2F_at : tDGet2F ta tb tc σ H Q = ta σ H fun x H1 => on (dctAt H1 x) fun _ => tb σ H1 fun y H2 => tc σ H2 fun z H3 => on (dctAt H3 x) fun kvs => on (keyV y) fun k => Q ((valV kvs k).getD z) H3 := rfl
/-- a store into a dict -/
def dPutK (Dd : Ends) (σ : St) (x y v : V) (H : Hp) : Prop := match x with
  | .ref a => on (dctAt H x) fun kvs => on (keyV y) fun k => kvs.length < sizeLine ∧ Dd.nx σ (upd H a (.dK (putK kvs k v)))
  | _ => False
theorem sDPutF_at : sDPutF ta tb tc Dd σ H = tc σ H fun v H1 => ta σ H1 fun x H2 => tb σ H2 fun y H3 => dPutK Dd σ x y v H3 := rfl
theorem dPutK_at {a : Addr} {y v : V} : dPutK Dd σ (.ref a) y v H = on (dctAt H (.ref a)) fun kvs => on (keyV y) fun k => kvs.length < sizeLine ∧ Dd.nx σ (upd H a (.dK (putK kvs k v))) := rfl
theorem keyV_int {i : Int} : keyV (.int i) = some (.inl i) := rfl
theorem keyV_str {x : Str} : keyV (.str x) = some (.inr x) := rfl
theorem tBM_at {K : PySem.W.Frag} {T : String} {u : V → List V → Hp → VK → Prop} : tBM K T u ta te σ H Q = ta σ H fun x H1 => tyV K T x H1 ∧ te σ H1 fun xs H2 => u x xs H2 Q := rfl
theorem rAppendF_at {l : Addr} {y : V} : rAppendF (.ref l) [y] H Q = (match H l with
    | some (.lst xs) => xs.length < sizeLine ∧ Q .non (upd H l (.lst (xs ++ [y])))
    | _ => False) := rfl
theorem rAppendF_of {l : Addr} {y : V} {xs : List V} (h : H l = some (.lst xs)) : rAppendF (.ref l) [y] H Q = (xs.length < sizeLine ∧ Q .non (upd H l (.lst (xs ++ [y])))) := by rw [rAppendF_at, h]
theorem tRng_at : tRng te σ H Q = te σ H fun vs H1 => match vs with
    | [.int i, .int j] => ∀ p, H1 p = none → Q (.ref p) (upd H1 p (.rng i j))
    | _ => False := by
  unfold tRng
  congr 1
  funext vs H1
  refine propext ⟨fun h => ?_, fun h => ?_⟩
  · obtain ⟨i, j, rfl, h⟩ := h; exact h
  · split at h
    · exact ⟨_, _, rfl, h⟩
    · exact h.elim
theorem rListRng_of {a : Addr} {lo hi : Int} (h : H a = some (.rng lo hi)) : rListRng [.ref a] H Q = (-1000000 ≤ lo ∧ lo ≤ 1000000 ∧ -1000000 ≤ hi ∧ hi ≤ 1000000 ∧ ∀ l, H l = none → Q (.ref l) (upd H l (.lst (rngV lo hi)))) := by
  unfold rListRng
  refine propext ⟨fun q => ?_, fun q => ⟨a, lo, hi, rfl, h, q⟩⟩
  obtain ⟨a', lo', hi', e, h', q⟩ := q
  cases e
  rw [h] at h'; cases h'
  exact q
theorem iList_of {K : PySem.W.Frag} {R : It → Hp → Prop} : iList K ta σ H R = ta σ H fun x H1 => ∃ a, x = .ref a ∧ (∃ xs, SqL K H1 a xs) ∧ R (Itl K a) H1 := rfl
/-- what a loop over a list or a tuple asks -/
def onL (K : PySem.W.Frag) (H : Hp) (x : V) (R : It → Hp → Prop) : Prop := match x with
  | .ref a => (∃ xs, SqL K H a xs) ∧ R (Itl K a) H
  | _ => False
def onT (K : PySem.W.Frag) (H : Hp) (x : V) (R : It → Hp → Prop) : Prop := match x with
  | .ref a => (∃ xs, SqT K H a xs) ∧ R (Itt K a) H
  | _ => False
theorem iList_at {K : PySem.W.Frag} {R : It → Hp → Prop} : iList K ta σ H R = ta σ H fun x H1 => onL K H1 x R := by
  unfold iList
  congr 1
  funext x H1
  refine propext ⟨fun h => ?_, fun h => ?_⟩
  · obtain ⟨a, rfl, h⟩ := h; exact h
  · cases x with
    | ref a => exact ⟨a, rfl, h⟩
    | _ => exact h.elim
theorem iTup_at {K : PySem.W.Frag} {R : It → Hp → Prop} : iTup K ta σ H R = ta σ H fun x H1 => onT K H1 x R := by
  unfold iTup
  congr 1
  funext x H1
  refine propext ⟨fun h => ?_, fun h => ?_⟩
  · obtain ⟨a, rfl, h⟩ := h; exact h
  · cases x with
    | ref a => exact ⟨a, rfl, h⟩
    | _ => exact h.elim
theorem onL_at {K : PySem.W.Frag} {a : Addr} {R : It → Hp → Prop} : onL K H (.ref a) R = ((∃ xs, SqL K H a xs) ∧ R (Itl K a) H) := rfl
theorem onT_at {K : PySem.W.Frag} {a : Addr} {R : It → Hp → Prop} : onT K H (.ref a) R = ((∃ xs, SqT K H a xs) ∧ R (Itt K a) H) := rfl
theorem iRng1_at {R : It → Hp → Prop} : iRng1 te σ H R = te σ H fun vs H1 => match vs with
    | [.int j] => -(2 ^ 62) ≤ j ∧ j < 2 ^ 62 ∧ R (Itr 0 j.toNat) H1
    | _ => False := by
  unfold iRng1
  congr 1
  funext vs H1
  refine propext ⟨fun h => ?_, fun h => ?_⟩
  · obtain ⟨i, rfl, h⟩ := h; exact h
  · split at h
    · exact ⟨_, rfl, h⟩
    · exact h.elim
theorem iZip_at {R : It → Hp → Prop} : iZip te σ H R = te σ H (zipK R) := rfl
theorem zipK_at {a b : Addr} {R : It → Hp → Prop} : zipK R [.ref a, .ref b] H = ((∃ xs ys, H a = some (.tup xs) ∧ H b = some (.tup ys)) ∧ R (Itz a b) H) := rfl
theorem tSl_at {u : V → Option Int → Option Int → Hp → VK → Prop} {tl th : TO} : tSl u ta tl th σ H Q = ta σ H fun x H1 => tl σ H1 fun l H2 => th σ H2 fun h H3 => u x l h H3 Q := rfl
theorem tNoPart_at {Qo : Option Int → Hp → Prop} : tNoPart σ H Qo = Qo none H := rfl
/-- P of an int -/
def onI (x : V) (P : Int → Prop) : Prop := match x with
  | .int b => P b
  | _ => False
theorem onI_int {b : Int} {P : Int → Prop} : onI (.int b) P = P b := rfl
theorem onI_eq {x : V} {P : Int → Prop} : (∃ c, x = .int c ∧ P c) = onI x P := by
  refine propext ⟨fun h => ?_, fun h => ?_⟩
  · obtain ⟨c, rfl, h⟩ := h; exact h
  · cases x with
    | int b => exact ⟨b, rfl, h⟩
    | _ => exact h.elim
theorem tPart_at {Qo : Option Int → Hp → Prop} : tPart ta σ H Qo = ta σ H fun x H1 => onI x fun i => Qo (some i) H1 := by
  unfold tPart; congr 1; funext x H1; exact onI_eq
theorem rSlLF_at {x : V} {lo hi : Option Int} : rSlLF x lo hi H Q = on (lstAt H x) fun xs => ∀ p, H p = none → Q (.ref p) (upd H p (.lst (cutV xs lo hi))) := rfl
theorem rSlTF_at {x : V} {lo hi : Option Int} : rSlTF x lo hi H Q = on (tupAt H x) fun xs => (∀ p, H p = none → Q (.ref p) (upd H p (.tup (cutV xs lo hi)))) ∧ (cutV xs lo hi = xs → Q x H) := rfl
theorem rCatF_of {a b : Addr} {xs zs : List V} (ha : H a = some (.lst xs)) (hb : H b = some (.lst zs)) : rCatF (.ref a) (.ref b) H Q = (xs.length + zs.length ≤ sizeLine ∧ ∀ p, H p = none → Q (.ref p) (upd H p (.lst (xs ++ zs)))) := by
  simp only [rCatF, ha, hb]
theorem rCatTF_at {x y : V} : rCatTF x y H Q = on (tupAt H x) fun xs => on (tupAt H y) fun ys => xs.length + ys.length ≤ sizeLine ∧ (xs = [] → Q y H) ∧ (ys = [] → Q x H) ∧ ∀ p, H p = none → Q (.ref p) (upd H p (.tup (xs ++ ys))) := rfl
/-- a comprehension over J from here on -/
def LcK (ix : List (Option Nat)) (J : It) (g : TG) (tt : TT) (te : TE) (σ : St) (Q : VK) (H : Hp) : Prop := ∃ W : Nat → Nat → List V → Hp → Prop, (∃ m, W 0 m [] H) ∧ ∀ i m ys H, W i m ys H → ys.length < sizeLine ∧
  ((J.stop i H ∧ ∀ p, H p = none → Q (.ref p) (upd H p (.lst ys))) ∨ (J.go i H ∧ ∀ x H', J.yld i H x H' → g x (lcσ ix σ) H' fun σ2 H2 => Keep (lcσ ix σ) σ2 ∧ tt σ2 H2 fun b H3 =>
    if b = true then te σ2 H3 fun y H4 => ∃ m', m' < m ∧ W (i + 1) m' (ys ++ [y]) H4 else ∃ m', m' < m ∧ W (i + 1) m' ys H3))
theorem tLc_at {ix : List (Option Nat)} {wi : TI} {t2 : TE} : tLc ix wi g tt t2 σ H Q = wi σ H fun J H1 => LcK ix J g tt t2 σ Q H1 := rfl
/-- the next turn's invariant -/
def LcN (Pv : Nat → List V → Hp → Prop) (n i : Nat) (ys : List V) (H : Hp) : Prop := ∃ m', m' < n - i ∧ m' = n - (i + 1) ∧ i + 1 ≤ n ∧ Pv (i + 1) ys H
theorem LcN.of {Pv : Nat → List V → Hp → Prop} {n i : Nat} {ys : List V} (h : i < n) (p : Pv (i + 1) ys H) : LcN Pv n i ys H := ⟨_, by omega, rfl, h, p⟩
/-- by an invariant: the turn, what was collected, the heap -/
theorem lc_range {ix : List (Option Nat)} {t2 : TE} {lo : Int} {n : Nat} (Pv : Nat → List V → Hp → Prop) (hz : ∀ i ys H, Pv i ys H → ys.length < sizeLine) (h0 : Pv 0 [] H)
    (hs : ∀ i ys H, i < n → Pv i ys H → g (.int (lo + i)) (lcσ ix σ) H fun σ2 H2 => Keep (lcσ ix σ) σ2 ∧ tt σ2 H2 fun b H3 => if b = true then t2 σ2 H3 fun y H4 => LcN Pv n i (ys ++ [y]) H4 else LcN Pv n i ys H3)
    (hd : ∀ ys H, Pv n ys H → ∀ p, H p = none → Q (.ref p) (upd H p (.lst ys))) : LcK ix (Itr lo n) g tt t2 σ Q H := by
  refine ⟨fun i m ys H => m = n - i ∧ i ≤ n ∧ Pv i ys H, ⟨n, by simp, Nat.zero_le _, h0⟩, ?_⟩
  rintro i m ys H ⟨rfl, hi, p⟩
  refine ⟨hz i ys H p, ?_⟩
  by_cases hlt : i < n
  · refine .inr ⟨hlt, fun x H' y => ?_⟩
    obtain ⟨e, y⟩ := y
    subst e y
    exact hs i ys _ hlt p
  · have e : i = n := by omega
    subst e
    exact .inl ⟨Nat.le_refl _, hd ys H p⟩
theorem lc_tup {K : PySem.W.Frag} {ix : List (Option Nat)} {t2 : TE} {a : Addr} {xs : List V} (Pv : Nat → List V → Hp → Prop) (hz : ∀ i ys H, Pv i ys H → ys.length < sizeLine) (h0 : Pv 0 [] H) (hl : ∀ i ys H, Pv i ys H → SqT K H a xs)
    (hs : ∀ i x ys H, xs[i]? = some x → Pv i ys H → g x (lcσ ix σ) H fun σ2 H2 => Keep (lcσ ix σ) σ2 ∧ tt σ2 H2 fun b H3 => if b = true then t2 σ2 H3 fun y H4 => LcN Pv xs.length i (ys ++ [y]) H4 else LcN Pv xs.length i ys H3)
    (hd : ∀ ys H, Pv xs.length ys H → ∀ p, H p = none → Q (.ref p) (upd H p (.lst ys))) : LcK ix (Itt K a) g tt t2 σ Q H := by
  refine ⟨fun i m ys H => m = xs.length - i ∧ i ≤ xs.length ∧ Pv i ys H, ⟨xs.length, by simp, Nat.zero_le _, h0⟩, ?_⟩
  rintro i m ys H ⟨rfl, hi, p⟩
  refine ⟨hz i ys H p, ?_⟩
  have q := hl i ys H p
  by_cases hlt : i < xs.length
  · refine .inr ⟨⟨xs, xs[i], q, by simp [hlt]⟩, fun x H' y => ?_⟩
    obtain ⟨e, y⟩ := y
    subst e
    exact hs i x ys _ (y xs q) p
  · have e : i = xs.length := by omega
    subst e
    exact .inl ⟨⟨xs, q, Nat.le_refl _⟩, hd ys H p⟩
theorem lc_list {K : PySem.W.Frag} {ix : List (Option Nat)} {t2 : TE} {a : Addr} {xs : List V} (Pv : Nat → List V → Hp → Prop) (hz : ∀ i ys H, Pv i ys H → ys.length < sizeLine) (h0 : Pv 0 [] H) (hl : ∀ i ys H, Pv i ys H → SqL K H a xs)
    (hs : ∀ i x ys H, xs[i]? = some x → Pv i ys H → g x (lcσ ix σ) H fun σ2 H2 => Keep (lcσ ix σ) σ2 ∧ tt σ2 H2 fun b H3 => if b = true then t2 σ2 H3 fun y H4 => LcN Pv xs.length i (ys ++ [y]) H4 else LcN Pv xs.length i ys H3)
    (hd : ∀ ys H, Pv xs.length ys H → ∀ p, H p = none → Q (.ref p) (upd H p (.lst ys))) : LcK ix (Itl K a) g tt t2 σ Q H := by
  refine ⟨fun i m ys H => m = xs.length - i ∧ i ≤ xs.length ∧ Pv i ys H, ⟨xs.length, by simp, Nat.zero_le _, h0⟩, ?_⟩
  rintro i m ys H ⟨rfl, hi, p⟩
  refine ⟨hz i ys H p, ?_⟩
  have q := hl i ys H p
  by_cases hlt : i < xs.length
  · refine .inr ⟨⟨xs, xs[i], q, by simp [hlt]⟩, fun x H' y => ?_⟩
    obtain ⟨e, y⟩ := y
    subst e
    exact hs i x ys _ (y xs q) p
  · have e : i = xs.length := by omega
    subst e
    exact .inl ⟨⟨xs, q, Nat.le_refl _⟩, hd ys H p⟩
theorem tYes_at : tYes σ H Qb = Qb true H := rfl
theorem isi_0 : isiN "int" "bool" = some false := rfl
theorem isi_1 : isiN "int" "int" = some true := rfl
theorem isi_2 : isiN "int" "tuple" = some false := rfl
theorem isi_3 : isiN "int" "str" = some false := rfl
theorem isi_4 : isiN "bool" "bool" = some true := rfl
theorem isi_5 : isiN "bool" "int" = some true := rfl
theorem isi_6 : isiN "bool" "tuple" = some false := rfl
theorem isi_7 : isiN "bool" "str" = some false := rfl
theorem isi_8 : isiN "str" "bool" = some false := rfl
theorem isi_9 : isiN "str" "int" = some false := rfl
theorem isi_10 : isiN "str" "tuple" = some false := rfl
theorem isi_11 : isiN "str" "str" = some true := rfl
theorem isi_12 : isiN "tuple" "bool" = some false := rfl
theorem isi_13 : isiN "tuple" "int" = some false := rfl
theorem isi_14 : isiN "tuple" "tuple" = some true := rfl
theorem isi_15 : isiN "tuple" "str" = some false := rfl
theorem isi_16 : isiN "list" "bool" = some false := rfl
theorem isi_17 : isiN "list" "int" = some false := rfl
theorem isi_18 : isiN "list" "tuple" = some false := rfl
theorem isi_19 : isiN "list" "str" = some false := rfl
theorem isi_20 : isiN "NoneType" "bool" = some false := rfl
theorem isi_21 : isiN "NoneType" "int" = some false := rfl
theorem isi_22 : isiN "NoneType" "tuple" = some false := rfl
theorem isi_23 : isiN "NoneType" "str" = some false := rfl
end
end L2

namespace L2
open PySem PySem.Spec PyProof.Rows
/-! ### sorted by a key: what is there stays -/
/-- whatever is there is there later, as it was -/
def Kp (h h' : Heap) : Prop := ∀ b o, h.get? b = some o → h'.get? b = some o
theorem Kp.refl (h : Heap) : Kp h h := fun _ _ e => e
theorem Kp.trans {h h1 h2 : Heap} (x : Kp h h1) (y : Kp h1 h2) : Kp h h2 := fun b o e => y b o (x b o e)
theorem Kp.push (h : Heap) (o : Obj) : Kp h (h.push o) := fun _ _ e => Heap.get?_push_of_some _ e
/-- .. but at one place -/
def KpB (a : Addr) (h h' : Heap) : Prop := ∀ b o, b ≠ a → h.get? b = some o → h'.get? b = some o
theorem KpB.upd (h : Heap) (a : Addr) (g : Obj → Obj) : KpB a h (h.update a g) := fun b o n e => (Heap.get?_update_ne _ _ _ _ n).trans e
theorem KpB.kp {a : Addr} {h h1 h2 : Heap} (x : KpB a h h1) (y : Kp h1 h2) : KpB a h h2 := fun b o n e => y b o (x b o n e)
theorem KpB.trans {a : Addr} {h h1 h2 : Heap} (x : KpB a h h1) (y : KpB a h1 h2) : KpB a h h2 := fun b o n e => y b o n (x b o n e)

section
variable {prog : Program} {w : World} {A : Around} {E : Value → Shared → Prop} {s : Shared} {a kS : Addr} {vs : List Value} {kz : List Int} {keys : Array Value} {e e1 : Nat} {P : PySem.Fin → Shared → Prop}
/-- the sorted items are put back -/
theorem srt_tail {st : SortSt} (nk : s.heap.get? kS = some (seqObj "list" keys e)) (na : s.heap.get? a = some (seqObj "list" #[] e1)) (hka : kS ≠ a)
    (hlen : kz.length = vs.length) (hk : IntsAre keys.toList kz) (h64 : vs.length < 64) (hp : (arrOf st).Perm (keys.zip vs.toArray)) (hs : SortedTo (arrOf st) (arrOf st).size) (hfl : failedOf st = none)
    (h : ∀ h' out c, (∀ b o, b ≠ a → b ≠ kS → s.heap.get? b = some o → h'.get? b = some o) → h'.get? a = some (seqObj "list" out c) → KskOut false kz vs out.toList → P (.done (.ret .none)) { s with heap := h' }) :
    wpAny (model prog w) A (ksk_tail a false e1 (.ref kS) st) P E s := by
  have z1 : keys.size = vs.length := by have := hk.length; rw [Array.length_toList] at this; omega
  have z2 : (arrOf st).size = vs.length := by rw [hp.size_eq, Array.size_zip, z1, List.size_toArray, Nat.min_self]
  have z3 : ((arrOf st).map (·.2)).size = vs.length := by rw [Array.size_map]; exact z2
  have na1 : (s.heap.update kS (Obj.mapSeq fun _ => (#[] : Array Value))).get? a = some (seqObj "list" #[] e1) := (Heap.get?_update_ne _ _ _ _ hka.symm).trans na
  unfold ksk_tail
  dsimp only
  refine wpAny_bind (listUpdate_at nk rfl ?_ (by rw [z1, sizeLine_eq]; omega) (Nat.zero_le _))
  refine wpAny_bind (wpAny_letGo (wpAny_bind (seqEpoch_at na1 rfl ?_)))
  refine wpAny_bind (listUpdate_at na1 rfl ?_ (Nat.zero_le _) (by simp only [Bool.false_eq_true, if_false]; rw [z3, sizeLine_eq]; omega))
  rw [hfl]
  simp only [bne_self_eq_false, Bool.false_eq_true, if_false]
  refine wpAny_pure (h _ ((arrOf st).map (·.2)) _ (fun b o n1 n2 q => ?_) (get?_update_seq na1 fun _ => (arrOf st).map (·.2)) (by simpa using ksk_out (b := false) hk hp hs))
  exact (Heap.get?_update_ne _ _ _ _ n1).trans ((Heap.get?_update_ne _ _ _ _ n2).trans q)

theorem srt_end (nk : s.heap.get? kS = some (seqObj "list" keys e)) (na : s.heap.get? a = some (seqObj "list" #[] e1)) (hka : kS ≠ a)
    (hlen : kz.length = vs.length) (hk : IntsAre keys.toList kz) (h64 : vs.length < 64)
    (h : ∀ h' out c, (∀ b o, b ≠ a → b ≠ kS → s.heap.get? b = some o → h'.get? b = some o) → h'.get? a = some (seqObj "list" out c) → KskOut false kz vs out.toList → P (.done (.ret .none)) { s with heap := h' }) :
    wpAny (model prog w) A (ksk_end a false vs.toArray e1 (.ref kS) keys) P E s := by
  have z1 : keys.size = vs.length := by have := hk.length; rw [Array.length_toList] at this; omega
  have z2 : (keys.zip vs.toArray).size = vs.length := by rw [Array.size_zip, z1, List.size_toArray, Nat.min_self]
  unfold ksk_end
  simp only [Bool.false_eq_true, if_false]
  by_cases h2 : vs.toArray.size < 2
  · rw [if_pos h2, if_pos h2]
    refine wpAny_bind (wpAny_pure ?_)
    rw [StateT.run_pure]
    refine wpAny_bind (wpAny_pure ?_)
    refine srt_tail (st := SortSt.mk' general' (keys.zip vs.toArray) #[] 7 none) nk na hka hlen hk h64 (Array.Perm.refl _) (fun i j l1 l2 => ?_) rfl h
    have l3 : j < (keys.zip vs.toArray).size := l2
    rw [z2] at l3
    rw [List.size_toArray] at h2
    obtain rfl : i = j := by omega
    exact Int.le_refl _
  · rw [if_neg h2, if_neg h2]
    rw [List.size_toArray] at h2
    rw [ksk_kind hk (by omega)]
    refine wpAny_bind (wpAny_pure ?_)
    refine wpAny_bind (wpAny_mono (wpS_sortRuns (a₀ := keys.zip vs.toArray) (st := SortSt.mk' oneType' (keys.zip vs.toArray) #[] 7 none)
      (Q := fun _ r => (arrOf r).Perm (keys.zip vs.toArray) ∧ failedOf r = none ∧ SortedTo (arrOf r) (keys.zip vs.toArray).size)
      (ksk_intKeys hk) ⟨Array.Perm.refl _, rfl, rfl, rfl⟩ (by omega) (by omega) fun r q1 q2 q3 => ⟨q1, q2, q3⟩) ?_ fun _ _ q => q)
    rintro ⟨⟨⟩, r⟩ s' ⟨rfl, hp, hf, hs⟩
    exact srt_tail nk na hka hlen hk h64 hp (by rw [hp.size_eq]; exact hs) hf h

/-- the keys are asked for, one by one -/
theorem srt_rest {f : Value} (nk : s.heap.get? kS = some (seqObj "list" #[] 0)) (na : s.heap.get? a = some (seqObj "list" #[] e1)) (hka : kS ≠ a) (hlen : kz.length = vs.length) (h64 : vs.length < 64)
    (turn : ∀ (i : Nat) (v : Value) (k : Int), vs[i]? = some v → kz[i]? = some k → ∀ (h : Heap) (tk : Nat), KpB kS s.heap h →
      wpAny (model prog w) A (call f [v]) (fun u s' => ∃ h' tk' t, s' = { s with heap := h', toks := tk' } ∧ Kp h h' ∧ u = .int k t) (fun _ _ => False) { s with heap := h, toks := tk })
    (h : ∀ h' tk out c, (∀ b o, b ≠ a → b ≠ kS → s.heap.get? b = some o → h'.get? b = some o) → h'.get? a = some (seqObj "list" out c) → KskOut false kz vs out.toList → P (.done (.ret .none)) { s with heap := h', toks := tk }) :
    wpAny (model prog w) A (ksk_rest a f false vs.toArray e1 (.ref kS)) P E s := by
  unfold ksk_rest
  refine wpAny_bind (wpAny_rule ?_)
  first
    | rw [List.forIn_toArray]
    | (rw [← Array.forIn_toList]; simp only [List.toList_toArray])
  refine wpAny_bind (ksk_fold (fun i s' => ∃ h' tk kA e, s' = { s with heap := h', toks := tk } ∧ KpB kS s.heap h' ∧ h'.get? kS = some (seqObj "list" kA e) ∧ IntsAre kA.toList (kz.take i)) vs 0 s
    ⟨s.heap, s.toks, #[], 0, rfl, fun _ _ _ q => q, nk, by simpa using IntsAre.nil⟩ ?step ?done)
  case step =>
    rintro j x s' hx ⟨g, tk, kA, e, rfl, kp, hS, hk⟩
    simp only [Nat.zero_add] at hk ⊢
    have hj : j < vs.length := (List.getElem?_eq_some_iff.mp hx).1
    have hkj : kz[j]? = some kz[j] := List.getElem?_eq_getElem (by omega)
    have hz : kA.size ≤ vs.length := by have := hk.length; rw [Array.length_toList, List.length_take] at this; omega
    refine wpAny_bind (wpAny_attempt (wpAny_mono (turn j x _ hx hkj g tk kp) (fun v s'' he => ?_) fun _ _ q => q.elim))
    obtain ⟨g2, tk2, t2, rfl, kp2, rfl⟩ := he
    dsimp only
    refine wpAny_bind (listUpdate_at (kp2 _ _ hS) rfl ?_ (by rw [sizeLine_eq]; omega) (by rw [Array.size_push, sizeLine_eq]; omega))
    refine wpAny_pure ⟨rfl, _, _, kA.push (.int kz[j] t2), _, rfl, (kp.kp kp2).trans (KpB.upd _ _ _), get?_update_seq (kp2 _ _ hS) (·.push (.int kz[j] t2)), ?_⟩
    have q1 : kz.take (j + 1) = kz.take j ++ [kz[j]] := by rw [List.take_add_one, hkj]; rfl
    have q2 : (kA.push (Value.int kz[j] t2)).toList = kA.toList ++ [Value.int kz[j] t2] := by simp
    rw [q1, q2]
    exact ksk_snoc hk
  case done =>
    rintro s' ⟨g, tk, kA, e, rfl, kp, hS, hk⟩
    rw [List.take_of_length_le (by omega)] at hk
    refine wpAny_bind (listItems_at hS rfl ?_)
    exact srt_end (s := { s with heap := g, toks := tk }) hS (kp a _ hka.symm na) hka hlen hk h64 fun h' out c kk ha ho => h h' tk out c (fun b o n1 n2 q => kk b o n1 n2 (kp b o n2 q)) ha ho

/-- list.sort(key = f) -/
theorem srt_sort {f : Value} {n : Nat} (ho : s.heap.get? a = some (seqObj "list" vs.toArray n)) (hlen : kz.length = vs.length) (h64 : vs.length < 64)
    (turn : ∀ (i : Nat) (v : Value) (k : Int), vs[i]? = some v → kz[i]? = some k → ∀ (h : Heap) (tk : Nat), KpB a s.heap h →
      wpAny (model prog w) A (call f [v]) (fun u s' => ∃ h' tk' t, s' = { s with heap := h', toks := tk' } ∧ Kp h h' ∧ u = .int k t) (fun _ _ => False) { s with heap := h, toks := tk })
    (h : ∀ h' tk out c, KpB a s.heap h' → h'.get? a = some (seqObj "list" out c) → KskOut false kz vs out.toList → P (.done (.ret .none)) { s with heap := h', toks := tk }) :
    wpAny (model prog w) A (ksk_tree a f false) P E s := by
  have la : a < s.heap.objs.size := Heap.lt_size ho
  have z0 : ((s.heap.update a (Obj.mapSeq fun _ => (#[] : Array Value))).push (seqObj "tuple" vs.toArray 0)).objs.size = s.heap.objs.size + 1 := by rw [size_push', Heap.size_update]
  have ho1 := get?_update_seq ho fun _ => (#[] : Array Value)
  unfold ksk_tree
  have few : vs.length ≤ sizeLine := by rw [sizeLine_eq]; omega
  refine wpAny_bind (listItems_at ho rfl (wpAny_bind (listUpdate_at ho rfl (wpAny_bind (seqEpoch_at ho1 rfl (wpAny_bind (wpAny_newTuple (wpAny_bind (wpAny_newList (wpAny_holding ?_) (Nat.zero_le _))) few)))) (by rw [List.size_toArray]; exact few) (Nat.zero_le _))))
  have kpA : KpB a s.heap (((s.heap.update a (Obj.mapSeq fun _ => (#[] : Array Value))).push (seqObj "tuple" vs.toArray 0)).push (seqObj "list" #[] 0)) := ((KpB.upd _ _ _).kp (Kp.push _ _)).kp (Kp.push _ _)
  have lk : ∀ b o, s.heap.get? b = some o → b ≠ ((s.heap.update a (Obj.mapSeq fun _ => (#[] : Array Value))).push (seqObj "tuple" vs.toArray 0)).objs.size := fun b o q => by
    rw [z0]; exact Nat.ne_of_lt (Nat.lt_succ_of_lt (Heap.lt_size q))
  refine srt_rest (s := { s with heap := ((s.heap.update a (Obj.mapSeq fun _ => (#[] : Array Value))).push (seqObj "tuple" vs.toArray 0)).push (seqObj "list" #[] 0) }) (kS := ((s.heap.update a (Obj.mapSeq fun _ => (#[] : Array Value))).push (seqObj "tuple" vs.toArray 0)).objs.size)
    (Heap.get?_push_size _ rfl) (Heap.get?_push_of_some _ (Heap.get?_push_of_some _ ho1)) (lk a _ ho).symm hlen h64 (fun i v k q1 q2 g tk kp => ?_) fun h' tk out c kk ha hq => ?_
  · exact turn i v k q1 q2 g tk fun b o nb q => kp b o (lk b o q) (kpA b o nb q)
  · exact h h' tk out c (fun b o nb q => kk b o nb (lk b o q) (kpA b o nb q)) ha hq
end
end L2

namespace L2
open PySem PySem.Spec PyProof.Rows
section
variable {prog : Program} {w : World} {A : Around} {E : Value → Shared → Prop} {s : Shared} {vs : List Value} {kz : List Int} {Q : Value → Shared → Prop}
/-- sorted(t, key = f), t a tuple -/
theorem srt_sorted {t q : Addr} (ht : IsTup s.heap t vs.toArray) (hlen : kz.length = vs.length) (h64 : vs.length < 64)
    (turn : ∀ (i : Nat) (v : Value) (k : Int), vs[i]? = some v → kz[i]? = some k → ∀ (h : Heap) (tk : Nat), Kp s.heap h →
      wpAny (model prog w) A.in1.in1 (call (.ref q) [v]) (fun u s' => ∃ h' tk' t, s' = { s with heap := h', toks := tk' } ∧ Kp h h' ∧ u = .int k t) (fun _ _ => False) { s with heap := h, toks := tk })
    (h : ∀ D h' tk out c, Kp s.heap h' → s.heap.get? D = none → h'.get? D = some (seqObj "list" out c) → KskOut false kz vs out.toList → Q (.ref D) { s with heap := h', toks := tk }) :
    wpAny (model prog w) A (call (.builtin "sorted") [.ref t] [(Str.ofString "key", .ref q)]) Q E s := by
  have few : vs.length ≤ sizeLine := by rw [sizeLine_eq]; omega
  obtain ⟨o, ho, hc, n, hd⟩ := ht
  refine call_function_entry_kw kind_sorted plain_sorted entry_sorted (ksk_s1 _ _) ?_
  unfold Builtin.«sorted»
  refine wpAny_bind (m := checkCount "sorted" 1 1 _) (wpAny_pure (wpAny_bind (wpAny_collect_seq t (.inr rfl) ho hc hd (fun g kg => ?_) (by rw [List.size_toArray]; exact few))))
  refine wpAny_bind (wpAny_newList ?_ few)
  have hoL : (g.push (seqObj "list" vs.toArray 0)).get? g.objs.size = some (seqObj "list" vs.toArray 0) := Heap.get?_push_size _ rfl
  have kp0 : Kp s.heap (g.push (seqObj "list" vs.toArray 0)) := Kp.trans kg (Kp.push _ _)
  have fr : s.heap.get? g.objs.size = none := by
    cases e : s.heap.get? g.objs.size with
    | none => rfl
    | some ob => exact absurd (Heap.lt_size (kg _ _ e)) (Nat.lt_irrefl _)
  have nD : ∀ b ob, s.heap.get? b = some ob → b ≠ g.objs.size := fun b ob e z => by rw [z, fr] at e; cases e
  show wpAny _ _ _ _ _ { s with heap := g.push (seqObj "list" vs.toArray 0) }
  refine wpAny_bind (wpAny_holding (wpAny_call_entry_kw slot_list_sort ⟨_, hoL, rfl⟩ entry_list_sort ?_ (ksk_l1 _ _)))
  rw [ksk_t1]
  refine srt_sort (s := { s with heap := g.push (seqObj "list" vs.toArray 0) }) hoL hlen h64 (fun i v k q1 q2 g2 tk kp => ?_) fun h' tk out c kp hD hq => ⟨_, rfl, ?_⟩
  · exact turn i v k q1 q2 g2 tk fun b ob e => kp b ob (nD b ob e) (kp0 b ob e)
  · exact wpAny_pure ⟨_, rfl, h _ h' tk out c (fun b ob e => kp b ob (nD b ob e) (kp0 b ob e)) fr hD hq⟩

/-- lambda x: x[0], called on a tuple -/
theorem lam_key {f c' t : Addr} {qual x : Str} {params : Arguments} {scope : Scope} {pm ctv : Value} {p1 p2 p3 : Pos} {kd : Nat} {items : Array Value} {k : Int} {u : Tok}
    (ho : s.heap.get? f = some (PySem.W.kla_obj "<lambda>" qual params (.Subscript (.Name x p1) (.Constant (.int 0) kd p2) p3) scope [] pm c' ctv)) (hcd : s.heap.CodeRec (.ref c') qual)
    (hroom : A.depth < recursionLimit) (lim : s.heap.NoLimit)
    (hb : ∀ v, bindArgs (PySem.W.kla_fn "<lambda>" qual params (.Subscript (.Name x p1) (.Constant (.int 0) kd p2) p3) scope [] pm (.ref c') ctv) ⟨[v], []⟩ = pure [(x, v)])
    (hx : scope.names.lookup x = some .local) (hcell : ∀ y ∈ scope.names, y.2 ≠ .cell) (hk : scope.kind = .function) (hco : scope.isCoroutine = false) (hgen : scope.isGenerator = false) (hdb : (x == ("__debug__" : Str)) = false)
    (ht : IsTup s.heap t items) (h0 : items[0]? = some (.int k u)) (hsz : items.size < 64) :
    wpAny (model prog w) A (call (.ref f) [.ref t]) (fun r s' => ∃ h' tk' t', s' = { s with heap := h', toks := tk' } ∧ Kp s.heap h' ∧ r = .int k t') E s := by
  refine wpAny_call (PySem.W.kla_callFunE hroom ho rfl hco hgen rfl hcd ?_)
  rw [hb]
  refine wpAny_pure (wpAny_newFunctionEnv hcell (fun y hy => ?_) (fun h₁ hns hsb => ?_) hk)
  · rw [List.mem_singleton.mp hy]; exact hx
  · have kp : Kp s.heap h₁ := fun b ob e => hsb.extBut b ob (Nat.ne_of_lt (Heap.lt_size e)) (Heap.get?_push_of_some _ e)
    refine ⟨lim.keeps kp, PySem.W.kla_codeExpr ?_⟩
    refine Subscript_ (wpAny_Name (wpAny_loadName_local hk hx hns (v := .ref t) (by simp) ?_) hdb)
    refine wpAny_Constant_int ?_
    have ht1 : IsTup h₁ t items := ht.keeps kp
    have h1 : 0 < items.size := by
      rcases Nat.eq_zero_or_pos items.size with z | z
      · rw [Array.getElem?_eq_none (by omega)] at h0; cases h0
      · exact z
    refine subscriptTail_builtinR (x := .int k u) (T := "tuple") ht1.typeIs slot_tuple_getitem.lookup ?_
    exact getItem_tuple (j := 0) ht1 (by decide) (by decide) (by simp [seqIndex?, h1]) h0 ⟨rfl, h₁, _, u, rfl, kp, rfl⟩
end
end L2

namespace L2
open PySem PySem.Spec PyProof.Rows
/-! ### sorted(e, key = lambda x: x[0]) of a tuple of tuples -/
/-- what is known of a def's own code, whose table takes up the code of a lambda -/
structure LamK (K : PySem.W.Frag) (mg : Str → Option Value) (c P : Addr) : Prop where
  hd : ∀ h, K.In h → PySem.W.CodeHd h c P
  ng : mainGlobals ≠ P
def codeX (c' : Addr) (qual : Str) : HO := .ext fun h => h.CodeRec (.ref c') qual
/-- the table, with or without the lambda's code -/
def LamT (H : Hp) (P : Addr) (pos : Pos) (qual : Str) : Prop :=
  ∃ ps, H P = some (.tbl ps) ∧ TriplesOk ps.toList ∧ (codeAmong pos ps.toList = none ∨ ∃ c', codeAmong pos ps.toList = some (.ref c') ∧ H c' = some (codeX c' qual))
def toV : Value → V
  | .ref a => .ref a
  | _ => .non
/-- rows with their keys, rising -/
def KeyS (kz : List Int) (xs ys : List V) : Prop := ∃ ps : List (Int × V), ps.Perm (kz.zip xs) ∧ ys = ps.map Prod.snd ∧ ps.Pairwise fun p q => p.1 ≤ q.1
def tSortK (K : PySem.W.Frag) (P : Addr) (lp : Pos) (qual : Str) (te : TE) : TE := fun σ H Q => te σ H fun v H1 => ∃ t xs kz, v = .ref t ∧ H1 t = some (.tup xs) ∧ xs.length < 64 ∧ kz.length = xs.length ∧
  (∀ (i : Nat) (x : V) (k : Int), xs[i]? = some x → kz[i]? = some k → ∃ b ys, x = .ref b ∧ H1 b = some (.tup (.int k :: ys)) ∧ ys.length < 60) ∧ LamT H1 P lp qual ∧
  ∀ D H2 ys, H1 D = none → H2 D = some (.lst ys) → (∀ b o, b ≠ P → H1 b = some o → H2 b = some o) → LamT H2 P lp qual → KeyS kz xs ys → Q (.ref D) H2
theorem ObjOk.some {P : Program} {w : World} {H : Hp} {h : Heap} {a : Addr} {o : HO} (x : ObjOk P w H h a o) : ∃ u, h.get? a = some u := by
  cases o with
  | lst xs => obtain ⟨_, _, _, _, e⟩ := x; exact ⟨_, e⟩
  | tup xs => obtain ⟨_, _, _, u, e, _⟩ := x; exact ⟨u, e⟩
  | dK kvs => obtain ⟨_, _, _, _, u, _, _, e, _⟩ := x; exact ⟨u, e⟩
  | dT kvs => obtain ⟨_, _, _, _, u, _, _, e, _⟩ := x; exact ⟨u, e⟩
  | set S n => obtain ⟨u, _, _, _, e, _⟩ := x; exact ⟨u, e⟩
  | ins C dx fs => obtain ⟨_, _, _, e, _⟩ := x; exact ⟨_, e⟩
  | own y => exact x
  | xd fs => obtain ⟨_, ⟨u, _, _, e, _⟩, _⟩ := x; exact ⟨u, e⟩
  | rng lo hi => obtain ⟨_, _, _, e⟩ := x; exact ⟨_, e⟩
  | frz ob u => exact ⟨_, x.1⟩
  | tbl ps => exact ⟨_, x⟩
  | met f y => exact ⟨_, x⟩
  | ext φ => exact x.2.1
theorem vals_toV : ∀ {l : List Value}, (∀ u ∈ l, RelV (toV u) u) → Vals (l.map toV) l
  | [], _ => .nil
  | u :: l, h => .cons (h u List.mem_cons_self) (vals_toV fun v hv => h v (List.mem_cons_of_mem _ hv))
theorem TriplesOk.snoc {a b : Int} {t u : Tok} {c : Value} : ∀ {l : List Value}, TriplesOk l → TriplesOk (l ++ [.int a t, .int b u, c])
  | [], _ => trivial
  | .int _ _ :: .int _ _ :: _ :: rest, h => TriplesOk.snoc (l := rest) h
section
variable {X : Cx} {c P : Addr} {pins : List (Addr × Obj)} {σ : St} {H : Hp} {s : Shared}
/-- the call, when the lambda is there -/
theorem sortK_go {Q : VK} {qual x : Str} {lparams : Arguments} {lscope : Scope} {p1 p2 p3 lp : Pos} {kd : Nat} {pm ctv : Value} {F c' t : Addr} {g : Heap} {tk : Nat} {ps ps' : Array Value} {xs : List V} {kz : List Int}
    (I : Inv X pins σ H s) (hroom : X.A.depth < recursionLimit)
    (hb : ∀ v, bindArgs (PySem.W.kla_fn "<lambda>" qual lparams (.Subscript (.Name x p1) (.Constant (.int 0) kd p2) p3) lscope [] pm (.ref c') ctv) ⟨[v], []⟩ = pure [(x, v)])
    (hx : lscope.names.lookup x = some .local) (hcell : ∀ y ∈ lscope.names, y.2 ≠ .cell) (hk : lscope.kind = .function) (hco : lscope.isCoroutine = false) (hgen : lscope.isGenerator = false) (hdb : (x == ("__debug__" : Str)) = false)
    (kB : KpB P s.heap g) (hP0 : H P = some (.tbl ps)) (hP : g.get? P = some (PySem.W.tabObj ps')) (hmore : ∃ more, ps' = ps ++ more) (h3 : TriplesOk ps'.toList) (hca : codeAmong lp ps'.toList = some (.ref c'))
    (hF : g.get? F = some (PySem.W.kla_obj "<lambda>" qual lparams (.Subscript (.Name x p1) (.Constant (.int 0) kd p2) p3) lscope [] pm c' ctv)) (hcd : g.CodeRec (.ref c') qual)
    (hc : (s.heap.get? c' = none ∧ H c' = none) ∨ H c' = some (codeX c' qual))
    (ht : H t = some (.tup xs)) (h64 : xs.length < 64) (hlen : kz.length = xs.length)
    (hxs : ∀ (i : Nat) (x : V) (k : Int), xs[i]? = some x → kz[i]? = some k → ∃ b ys, x = .ref b ∧ H b = some (.tup (.int k :: ys)) ∧ ys.length < 60)
    (q : ∀ D H2 ys, H D = none → H2 D = some (.lst ys) → (∀ b o, b ≠ P → H b = some o → H2 b = some o) → LamT H2 P lp qual → KeyS kz xs ys → Q (.ref D) H2) :
    wpAny (model X.prog X.w) X.A (call (.builtin "sorted") [.ref t] [(Str.ofString "key", .ref F)]) (EP X pins σ Q) X.xe { s with heap := g, toks := tk } := by
  obtain ⟨z, us, rv, tp⟩ := I.hok t _ ht
  have nP : ∀ b o, H b = some o → (∀ ps, o ≠ .tbl ps) → b ≠ P := fun b o e n z => by rw [z, hP0] at e; cases e; exact n _ rfl
  have tpg : IsTup g t us.toArray := by
    obtain ⟨o, ho, r⟩ := tp
    exact ⟨o, kB _ _ (nP t _ ht fun _ z => by cases z) ho, r⟩
  have hul := rv.length
  -- all items are references
  have isref : ∀ (i : Nat) (u : Value) (k : Int), us[i]? = some u → kz[i]? = some k → ∃ b items tt, u = .ref b ∧ IsTup g b items ∧ items[0]? = some (.int k tt) ∧ items.size < 64 ∧ xs[i]? = some (.ref b) := fun i u k e1 e2 => by
    have hi : i < us.length := (List.getElem?_eq_some_iff.mp e1).1
    obtain ⟨x, ex⟩ : ∃ x, xs[i]? = some x := ⟨_, List.getElem?_eq_getElem (by omega)⟩
    obtain ⟨b, ys, rfl, hbt, hy⟩ := hxs i x k ex e2
    obtain ⟨u', eu, ru⟩ := rv.get ex
    rw [e1] at eu; cases eu
    cases ru
    obtain ⟨zb, its, rb, ob, hob, r⟩ := I.hok b _ hbt
    obtain ⟨v0, rest, rfl, r0, rr⟩ : ∃ v0 rest, its = v0 :: rest ∧ RelV (.int k) v0 ∧ Vals ys rest := by
      cases rb with
      | cons ra rt => exact ⟨_, _, rfl, ra, rt⟩
    obtain ⟨tt, rfl⟩ := r0
    refine ⟨b, _, tt, rfl, ⟨ob, kB _ _ (nP b _ hbt fun _ z => by cases z) hob, r⟩, by simp, ?_, ex⟩
    have := rr.length
    simp
    omega
  refine srt_sorted (s := { s with heap := g, toks := tk }) (kz := kz) tpg (by omega) (by omega) (fun i u k e1 e2 h2 tk2 kp => ?_) fun D h2 tk2 out cc kp fr hD hq => ?_
  · obtain ⟨b, items, tt, rfl, hbt, h0, hz, _⟩ := isref i u k e1 e2
    exact lam_key (s := { s with heap := h2, toks := tk2 }) (kp _ _ hF) (hcd.keeps kp) hroom (I.ok.mod.nolimit.keeps fun b o e => kp _ _ (kB b o (fun z => by have := (I.bs b o e).2; rw [z, hP0] at this; cases this) (I.bk b o e))) hb hx hcell hk hco hgen hdb (hbt.keeps kp) h0 hz
  · obtain ⟨prs, pm, eo, pw⟩ := hq
    have nDc : D ≠ c' := fun z => by
      obtain ⟨c2, oc, _, _, e2, hoc, _⟩ := hcd
      cases e2
      rw [← z] at hoc
      rw [show g.get? D = none from fr] at hoc; cases hoc
    have nDP : D ≠ P := fun z => by have f' : g.get? D = none := fr; rw [z, hP] at f'; cases f'
    have sD : s.heap.get? D = none := by
      cases e : s.heap.get? D with
      | none => rfl
      | some o => exact absurd ((kB D o nDP e).symm.trans fr) (by simp)
    have HD : H D = none := by
      cases e : H D with
      | none => rfl
      | some o =>
        obtain ⟨u, hu⟩ := (I.hok D o e).some
        rw [sD] at hu; cases hu
    have ncP : c' ≠ P := fun z => by
      rcases hc with ⟨_, n⟩ | n
      · rw [z, hP0] at n; cases n
      · rw [z, hP0] at n; cases n
    generalize hys : out.toList.map toV = ys
    generalize hH : upd (upd (upd H P (.tbl ps')) c' (codeX c' qual)) D (.lst ys) = H3
    have gD : H3 D = some (.lst ys) := by rw [← hH]; exact upd_same
    have gc : H3 c' = some (codeX c' qual) := by rw [← hH, upd_ne nDc.symm]; exact upd_same
    have gP : H3 P = some (.tbl ps') := by rw [← hH, upd_ne nDP.symm, upd_ne ncP.symm]; exact upd_same
    have go : ∀ b, b ≠ P → b ≠ c' → b ≠ D → H3 b = H b := fun b n1 n2 n3 => by rw [← hH, upd_ne n3, upd_ne n2, upd_ne n1]
    have same : ∀ b o, b ≠ P → H b = some o → H3 b = some o := fun b o n e => by
      by_cases z1 : b = D
      · rw [z1, HD] at e; cases e
      · by_cases z2 : b = c'
        · rcases hc with ⟨_, n'⟩ | n'
          · rw [z2, n'] at e; cases e
          · rw [z2, n'] at e; rw [z2, gc]; exact e
        · rw [go b n z2 z1]; exact e
    have kall : ∀ b o, b ≠ P → s.heap.get? b = some o → h2.get? b = some o := fun b o n e => kp _ _ (kB b o n e)
    have outref : ∀ u ∈ out.toList, RelV (toV u) u := fun u hu => by
      rw [eo] at hu
      obtain ⟨⟨k, u'⟩, hp, rfl⟩ := List.mem_map.mp hu
      have hm := pm.mem_iff.mp hp
      obtain ⟨i, hi⟩ := List.mem_iff_getElem?.mp hm
      rw [List.getElem?_zip_eq_some] at hi
      obtain ⟨b, _, _, e, _⟩ := isref i u' k hi.2 hi.1
      show RelV (toV u') u'
      rw [e]; rfl
    have sorted : KeyS kz xs ys := by
      have exs : xs = us.map toV := by
        apply List.ext_getElem?
        intro i
        rw [List.getElem?_map]
        by_cases hi : i < us.length
        · obtain ⟨b, _, _, e, _, _, _, ex⟩ := isref i us[i] kz[i] (List.getElem?_eq_getElem hi) (List.getElem?_eq_getElem (by omega))
          rw [List.getElem?_eq_getElem hi, ex, e]; rfl
        · rw [List.getElem?_eq_none (by omega), List.getElem?_eq_none (by omega)]; rfl
      refine ⟨prs.map fun p => (p.1, toV p.2), ?_, ?_, ?_⟩
      · have := pm.map fun p : Int × Value => (p.1, toV p.2)
        rw [exs, List.zip_map_right]
        exact this
      · rw [← hys, eo, List.map_map, List.map_map]; rfl
      · rw [List.pairwise_map]; simpa using pw
    refine ⟨.ref D, H3, ?_, rfl, q D H3 ys HD gD same ⟨ps', gP, h3, .inr ⟨c', hca, gc⟩⟩ sorted⟩
    show Inv X pins σ H3 { s with heap := h2, gens := s.gens, drawn := s.drawn, toks := tk2 }
    refine I.step (ch := []) (fun _ z => nomatch z) (fun b o _ _ _ e n => kall b o (fun z => by rw [z, hP0] at n; cases n) e) (fun b o _ _ _ e n => ⟨o.slots, kall b o (fun z => by rw [z, hP0] at n; cases n) e⟩)
      (fun b o _ e n => ?_) (fun b o _ e => ?_) (fun b xs e => same b _ (nP b _ e fun _ z => by cases z) e) (fun b o u e => same b _ (nP b _ e fun _ z => by cases z) e) (fun b qs e => ?_) (fun m hm => ?_) (fun b o e => ?_) I.bare
    · -- free
      by_cases z1 : b = D
      · rw [z1, sD] at e; cases e
      · by_cases z2 : b = c'
        · rcases hc with ⟨n', _⟩ | n'
          · rw [z2, n'] at e; cases e
          · rw [z2, n'] at n; cases n
        · by_cases z3 : b = P
          · rw [z3, hP0] at n; cases n
          · rw [go b z3 z2 z1]; exact n
    · by_cases z3 : b = P
      · rw [z3]; exact ⟨_, kp _ _ hP⟩
      · exact ⟨o, kall b o z3 e⟩
    · by_cases z3 : b = P
      · rw [z3, hP0] at e; cases e
        obtain ⟨more, em⟩ := hmore
        exact ⟨more, by rw [z3, gP, em]⟩
      · exact ⟨#[], by rw [same b _ z3 e]; simp⟩
    · obtain ⟨o, es, ep, ho, r⟩ := hm
      exact ⟨o, es, ep, kall _ o (fun z => by have := I.free; rw [z, hP0] at this; cases this) ho, r⟩
    · by_cases z1 : b = D
      · rw [z1, gD] at e; cases e
        rw [z1]
        have hl : ys.length = out.toList.length := by rw [← hys, List.length_map]
        refine ⟨?_, out.toList, cc, ?_, by rw [hD]⟩
        · rw [hl, eo, List.length_map, pm.length_eq, List.length_zip]
          exact Nat.le_of_lt (small1000 (by omega))
        · rw [← hys]
          exact vals_toV outref
      · by_cases z2 : b = c'
        · rw [z2, gc] at e; cases e
          rw [z2]
          refine ⟨hcd.keeps kp, ?_, ?_⟩
          · obtain ⟨c2, oc, _, _, e2, hoc, _⟩ := hcd.keeps kp
            cases e2; exact ⟨oc, hoc⟩
          · rintro h4 h5 ⟨c2, oc, vs, tt, e2, hoc, r⟩ hk5
            cases e2
            exact ⟨_, oc, vs, tt, rfl, hk5 oc hoc, r⟩
        · by_cases z3 : b = P
          · rw [z3, gP] at e; cases e
            rw [z3]; exact kp _ _ hP
          · rw [go b z3 z2 z1] at e
            refine (I.hok b o e).stay (fun b' u hb' e' => kall b' u ?_ e') (fun b' e' => ?_) fun b' zs e' => ?_
            · rcases hb' with rfl | e2
              · exact z3
              · exact nP b' _ e2 fun _ z => by cases z
            · exact same b' _ (nP b' _ e' fun _ z => by cases z) e'
            · exact same b' _ (nP b' _ e' fun _ z => by cases z) e'
/-- THE RULE -/
theorem pe_sortK {e : Expr} {te : TE} {x : Str} {lparams : Arguments} {lscope : Scope} {p p1 p2 p3 lp kp pos : Pos} {kd : Nat} (L : LamK X.K X.mg c P) (hB : X.base.BuiltinsAt X.mg P) (hcode : X.env.code = .ref c) (hroom : X.A.depth < recursionLimit) (hm : X.mg "sorted" = none) (he : PE X e te)
    (hdef : defaultsOf lparams X.env = ([], []) := by with_unfolding_all rfl) (hcl : closureFor lscope X.env = pure [] := by with_unfolding_all rfl)
    (hb : ∀ qual pm c' ctv v, bindArgs (PySem.W.kla_fn "<lambda>" qual lparams (.Subscript (.Name x p1) (.Constant (.int 0) kd p2) p3) lscope [] pm (.ref c') ctv) ⟨[v], []⟩ = pure [(x, v)] := by with_unfolding_all (intros; rfl))
    (hx : lscope.names.lookup x = some .local := by with_unfolding_all rfl) (hcell : ∀ y ∈ lscope.names, y.2 ≠ .cell := by with_unfolding_all decide) (hk : lscope.kind = .function := by with_unfolding_all rfl) (hco : lscope.isCoroutine = false := by with_unfolding_all rfl) (hgen : lscope.isGenerator = false := by with_unfolding_all rfl) (hdb : (x == ("__debug__" : Str)) = false := by decide)
    (hg : Gl X "sorted" := by with_unfolding_all rfl) (hst : starEach [e] X.env = (false, eval e X.env) :: starEach [] X.env := by with_unfolding_all rfl) :
    PE X (.Call (.Name "sorted" p) [e] [⟨some "key", .Lambda lparams (.Subscript (.Name x p1) (.Constant (.int 0) kd p2) p3) lscope lp, kp⟩] pos) (tSortK X.K P lp (X.env.qual ++ "<lambda>") te) := by
  intro pins s σ H Q I h
  refine wpAny_Call_Name_kw (ld_blt I hg hm boot_sorted' ?_)
  refine callWith_builtin_kwB (by rw [hst]; rfl) (by rfl) (evalArgs_kw2 (by rfl) ?_ hst)
  have ha : PA X [e] (tCons te tNil) := pa_cons he pa_nil hst
  refine thn (ha pos pins s σ H (fun vs H1 => match vs with
    | [v] => ∃ t xs kz, v = .ref t ∧ H1 t = some (.tup xs) ∧ xs.length < 64 ∧ kz.length = xs.length ∧
      (∀ (i : Nat) (x : V) (k : Int), xs[i]? = some x → kz[i]? = some k → ∃ b ys, x = .ref b ∧ H1 b = some (.tup (.int k :: ys)) ∧ ys.length < 60) ∧ LamT H1 P lp (X.env.qual ++ "<lambda>") ∧
      ∀ D H2 ys, H1 D = none → H2 D = some (.lst ys) → (∀ b o, b ≠ P → H1 b = some o → H2 b = some o) → LamT H2 P lp (X.env.qual ++ "<lambda>") → KeyS kz xs ys → Q (.ref D) H2
    | _ => False) I h) fun us s1 ⟨vs, H1, I1, rv, q1⟩ => ?_
  match vs, q1 with
  | [v], ⟨t, xs, kz, ev, ht, h64, hlen, hxs, ⟨ps, hP, h3, hps⟩, q⟩ =>
  subst ev
  obtain ⟨u, rfl, ru⟩ := vals1 rv
  cases ru
  have hP1 : s1.heap.get? P = some (PySem.W.tabObj ps) := I1.hok P _ hP
  have ne : ∀ b o, X.base.get? b = some o → b ≠ P := fun b o e z => by have := (I1.bs b o e).2; rw [z, hP] at this; cases this
  have hbA : s1.heap.BuiltinsAt X.mg P := by
    obtain ⟨bm, ob, b1, b2, b3, b4, b5, b6⟩ := hB
    exact ⟨bm, ob, b1, b2, b3, b4, I1.bk _ _ b5, b6⟩
  have hgl : X.env.globals = mainGlobals := I1.ok.glob
  have hns : s1.heap.Ns mainGlobals X.mg := I1.mod.glob.keeps I1.bk
  show wpAny _ _ (evalAll [do let v ← eval (.Lambda lparams (.Subscript (.Name x p1) (.Constant (.int 0) kd p2) p3) lscope lp) X.env; standAt pos; pure v]) _ _ s1
  refine wpAny_evalAll_cons (wpAny_bind (PySem.W.kla_eval hdef ?_))
  rcases hps with hn | ⟨c', hc, hx'⟩
  · refine PySem.W.kla_makeFunction (mg := X.mg) hcl hgl hns hcode (L.hd _ I1.kIn) hP1 h3 hn L.ng hbA fun c' ctv g tk hx1 hge hlt hrec htb => ?_
    refine wpAny_bind (wpAny_standAt (wpAny_pure (wpAny_evalAll_nil ?_)))
    have fr : s1.heap.get? c' = none := Heap.get?_none_of_le hge
    refine sortK_go (s := s1) (ps := ps) I1 hroom (fun v => hb _ _ _ _ v) hx hcell hk hco hgen hdb (fun b o n e => Heap.get?_push_of_some _ (hx1 b o n e)) hP (Heap.get?_push_of_some _ htb) ⟨_, rfl⟩ ?_ ?_ (Heap.get?_push_size _ rfl) (hrec.push _) (.inl ⟨fr, I1.hok.fresh hge⟩) ht h64 hlen hxs q
    · simpa [rawInt] using TriplesOk.snoc h3
    · simpa using codeAmong_snoc _ h3 hn
  · refine PySem.W.kla_makeFunctionHit (mg := X.mg) hcl hgl hns hcode (L.hd _ I1.kIn) hP1 h3 hc hbA fun ctv g tk hk1 hsz => ?_
    refine wpAny_bind (wpAny_standAt (wpAny_pure (wpAny_evalAll_nil ?_)))
    have hrec : s1.heap.CodeRec (.ref c') (X.env.qual ++ "<lambda>") := (I1.hok c' _ hx').1
    exact sortK_go (s := s1) (ps := ps) I1 hroom (fun v => hb _ _ _ _ v) hx hcell hk hco hgen hdb (fun b o n e => Heap.get?_push_of_some _ (hk1 b o e)) hP (Heap.get?_push_of_some _ (hk1 _ _ hP1)) ⟨#[], by simp⟩ h3 hc (Heap.get?_push_size _ rfl) ((hrec.keeps hk1).push _) (.inr hx') ht h64 hlen hxs q
end
end L2

namespace L2
open PySem PySem.Spec PyProof.Rows
/-! ### set(xs) of a list of ints, and how many there are -/
theorem dedup_nodup {l : List Int} {v : Int} (h : l.Nodup) : (step_dedup l v).Nodup := by
  unfold step_dedup
  split
  · exact h
  · rename_i hn
    rw [List.nodup_append]
    refine ⟨h, by simp, fun a ha b hb e => hn ?_⟩
    rw [List.any_eq_true]
    simp at hb
    exact ⟨a, ha, by simp [e, hb]⟩
theorem firstMet_nodup (val : Nat → Int) : ∀ i, (firstMet val i).Nodup
  | 0 => List.nodup_nil
  | i + 1 => by rw [firstMet_succ]; exact dedup_nodup (firstMet_nodup val i)
theorem range_getD (ns : List Int) : (List.range ns.length).map (fun i => ns.getD i 0) = ns := by
  apply List.ext_getElem
  · simp
  · intro i h1 h2
    simp at h1
    simp [List.getD, h1]
/-- as many as are unlike -/
def Unlike (ns : List Int) (n : Nat) : Prop := ∃ l : List Int, l.Nodup ∧ (∀ k, k ∈ l ↔ k ∈ ns) ∧ n = l.length
def rSetF : List V → Hp → VK → Prop := fun xs H Q => ∃ a ns, xs = [.ref a] ∧ H a = some (.lst (List.map V.int ns)) ∧ ns.length ≤ 1000 ∧ ∀ p S n, H p = none → Unlike ns n → Q (.ref p) (upd H p (.set S n))
def rLenS : List V → Hp → VK → Prop := fun xs H Q => ∃ a S n, xs = [.ref a] ∧ H a = some (.set S n) ∧ Q (.int n) H
section
variable {X : Cx}
theorem call_setF (hc : X.calm = true) : CallR X (.type "set") rSetF := by
  intro pins s σ H xs us Q I r h
  obtain ⟨a, ns, rfl, ha, hl, q⟩ := h
  obtain ⟨u, rfl, ru⟩ := vals1 r
  cases ru
  obtain ⟨its, n, rv, ho, hz⟩ := I.lst ha
  have hi : IntsAre its ns := by
    clear ho ha hl q
    induction ns generalizing its with
    | nil => cases rv; exact .nil
    | cons k ns ih =>
      rw [List.map_cons] at rv
      cases rv with
      | cons r0 rr =>
        obtain ⟨t, rfl⟩ := r0
        exact .cons k t (ih _ rr (by simp at hz ⊢; omega))
  have hlen := hi.length
  have sb : scanBound = 4096 := rfl
  refine call_set_list (I.ok.hd hc) ⟨_, ho, rfl, n, rfl⟩ (by simpa using hi) (by rw [List.size_toArray, sb]; omega) fun h' tk hS kk => ?_
  have kp : ∀ b o, s.heap.get? b = some o → h'.get? b = some o := fun b o e => kk b o (Heap.lt_size e) e
  refine ⟨.ref s.heap.objs.size, upd H s.heap.objs.size (.set _ _), I.laid kp (Nat.le_refl _) hS, rfl, q _ _ _ (I.hok.fresh (Nat.le_refl _)) ⟨_, firstMet_nodup _ _, fun k => ?_, rfl⟩⟩
  have e := firstMet_any (fun i => ns.getD i 0) its.toArray.size k
  rw [List.size_toArray, hlen, range_getD] at e
  rw [List.size_toArray, hlen]
  have f : ∀ l : List Int, l.any (· == k) = true ↔ k ∈ l := fun l => by simp
  rw [← f, e, f]
theorem call_lenS : CallR X (.builtin "len") rLenS := by
  intro pins s σ H xs us Q I r h
  obtain ⟨a, S, n, rfl, ha, q⟩ := h
  obtain ⟨u, rfl, ru⟩ := vals1 r
  cases ru
  obtain ⟨o, es, ep, t, ho, hex, hd, _, _, hb, hf, hn⟩ := I.hok a _ ha
  have sb : scanBound = 4096 := rfl
  refine call_len_set ho hex hd hf (by omega) ⟨.int n, H, ?_, ⟨s.toks + 1, by rw [hn]⟩, q⟩
  exact (I.tok _).tok _
/-! ### a def that is called by its one parameter's name -/
def Cal1 (P : Program) (w : World) (K : PySem.W.Frag) (mg : Str → Option Value) (base : Heap) (x : Str) (k : Nat) (p : Str) (sp : Sp) : Prop :=
  ∃ f fd, FnOk P w K mg base CX0 k f fd [p] sp ∧ mg x = some (.ref f) ∧ PySem.W.keepIn K (.ref f) = true ∧ Binds K fd [p] [] ∧ ∀ (s : Shared) (v : Value), BindsTo s fd ⟨[], [(p, v)]⟩ [(p, v)]
theorem Cal1.cal {P : Program} {w : World} {K : PySem.W.Frag} {mg : Str → Option Value} {base : Heap} {x : Str} {k : Nat} {p : Str} {sp : Sp} (c : Cal1 P w K mg base x k p sp) : Cal P w K mg base x k [p] sp := by
  obtain ⟨f, fd, a, b, c, d, _⟩ := c
  exact ⟨f, fd, a, b, c, d⟩
theorem pe_cal1 {x p : Str} {k : Nat} {sp : Sp} {pn kp pos : Pos} {e : Expr} {te : TE} (c : Cal1 X.prog X.w X.K X.mg X.base x k p sp) (hr : Room k X.A) (he : PE X e te) (hg : Gl X x := by with_unfolding_all rfl) (hdb : (x == ("__debug__" : Str)) = false := by decide) :
    PE X (.Call (.Name x pn) [] [⟨some p, e, kp⟩] pos) (tCall sp [] E0 (tCons te tNil)) := by
  obtain ⟨f, fd, F, hm, hk, hb, hb1⟩ := c
  intro pins s σ H Q I h
  refine wpAny_Call_Name_kw (ld_glob I hg hm ?_ hdb)
  refine PySem.W.callWith_KW0 (h₀ := X.base) I.ok.mod.kin hk (by rfl) ?_ (by rfl)
  have hkw : PK X [⟨some p, e, kp⟩] (tCons te tNil) := pk_cons he pk_nil
  refine thn (hkw pos pins s σ H _ I h) fun ws s2 ⟨zs, H2, I2, rz, q2⟩ => ⟨I2.kIn, ?_⟩
  have hl := F.len _ _ _ _ q2
  obtain ⟨z, rfl⟩ : ∃ z, zs = [z] := by
    rw [List.append_nil] at hl
    match zs, hl with
    | [z], _ => exact ⟨z, rfl⟩
  obtain ⟨u, rfl, ru⟩ := vals1 rz
  show wpAny _ _ (call (.ref f) [] [(p, u)]) _ _ _
  refine wpAny_call (codeAny_mono (F.run X.A X.stack s2 H2 ⟨[], [(p, u)]⟩ [u] [z] Q E0 hr I2.env0 (hb1 s2 u) (.cons ru .nil) q2) fun r s' hq => ?_)
  cases r with
  | error e => exact (show False from hq).elim
  | ok fl =>
    cases fl with
    | ret u => exact I2.after hq
    | next => exact False.elim hq
    | brk => exact False.elim hq
    | cont => exact False.elim hq
end
section
variable {P : Program} {w : World} {K : PySem.W.Frag} {mg : Str → Option Value} {base : Heap}
/-- a def of the top, its code known -/
def DefC (K : PySem.W.Frag) (mg : Str → Option Value) (x : Str) (st : Stmt) (c : Addr) : Prop :=
  ∃ (f : Addr) (oc : Value) (od : Option Addr) (kV doc pm : Value) (an : Option Addr) (ct : Value) (osl : Array (Option Value)),
    K.lookup f = some ⟨oc, od, .func (PySem.W.fnOf x x (defArgs st) (defBody st) (defScope st) .none kV doc pm an (.ref c) ct), osl⟩ ∧ PySem.W.codeIn K (.ref c) x = true ∧ PySem.W.keepIn K (.ref f) = true ∧ mg x = some (.ref f)
theorem DefC.ok1 {x p : Str} {st : Stmt} {c : Addr} {N : List Str} {k : Nat} {sp : Sp} (d : DefC K mg x st c) (S : FnScope N [p] (defScope st)) (len : ∀ vs H Q E, sp vs H Q E → vs.length = 1)
    (hb : ∀ (kV doc pm : Value) (an : Option Addr) (cdv ct : Value) (us : List Value), us.length = 1 → bindArgs (PySem.W.fnOf x x (defArgs st) (defBody st) (defScope st) .none kV doc pm an cdv ct) ⟨us, []⟩ = pure ([p].zip us))
    (hb1 : ∀ (kV doc pm : Value) (an : Option Addr) (cdv ct v : Value), bindArgs (PySem.W.fnOf x x (defArgs st) (defBody st) (defScope st) .none kV doc pm an cdv ct) ⟨[], [(p, v)]⟩ = pure [(p, v)])
    (hbody : ∀ (f : Addr) (A : Around) (outer : List Env) (s : Shared) (H : Hp) (vs : List V) (Q : VK) (E : XK), Room k (A.deeper (envOfC x (defScope st) s.heap.objs.size f (.ref c))) → sp vs H Q E →
      ∃ t, PSs (cxOf CX0 P w K mg base N x (defScope st) f (.ref c) A outer s H E).nox (defBody st) t ∧ t { nx := fun _ H' => Q .non H', rt := Q } (start N vs) H) : Cal1 P w K mg base x (k + 1) p sp := by
  obtain ⟨f, oc, od, kV, doc, pm, an, ct, osl, lk, hcd, kp, hm⟩ := d
  refine ⟨f, _, fn_of lk hcd S len fun A outer s H vs Q E hr hsp => ?_, hm, kp, .all (hb kV doc pm an (.ref c) ct), fun s v => .of_eq (hb1 kV doc pm an (.ref c) ct v)⟩
  obtain ⟨t, h, q⟩ := hbody f A outer s H vs Q E hr hsp
  exact ⟨t, h.nox, q⟩
end
end L2

namespace L2
open PySem PySem.Spec PyProof.Rows
/-! ### a, b = a list of two -/
section
variable {prog : Program} {w : World} {A : Around} {E : Value → Shared → Prop} {s : Shared}
theorem unpack_list2 {l : Addr} {u v : Value} {Q : List Value → Shared → Prop} (hh : A.handled = none) (hl : s.heap.IsList l #[u, v])
    (hQ : ∀ h', Heap.ExtBut s.heap.objs.size s.heap h' → Q [u, v] { s with heap := h' }) : wpAny (model prog w) A (unpackItems (.ref l) 2 none) Q E s := by
  have hlt : l ≠ s.heap.objs.size := by obtain ⟨o, ho, _⟩ := hl; exact Nat.ne_of_lt (Heap.lt_size ho)
  unfold unpackItems notIterableAtAll
  refine wpAny_bind (wpAny_bind (wpAny_specialOf hl.typeIs F.slot_list_iter.lookup (wpAny_pure ?_)))
  simp only [Bool.false_eq_true, if_false]
  refine wpAny_bind (wpAny_holding (wpAny_pyIter_list hl ?_))
  have st0 : (s.heap.push { cls := .type "list_iterator", data := .fields #[.ref l, .int 0 0] }).IsListIter s.heap.objs.size l 0 := ⟨_, Heap.get?_push_size _ rfl, rfl, rfl⟩
  have l0 := hl.push { cls := .type "list_iterator", data := .fields #[.ref l, .int 0 0] }
  have d2 : ∀ (s1 : Shared) (R : List Value → Shared → Prop), s1.heap.IsListIter s.heap.objs.size l 0 → s1.heap.IsList l #[u, v] → (∀ h', h'.IsListIter s.heap.objs.size l 2 → Heap.SameBut s.heap.objs.size s1.heap h' → R [u, v] { s1 with heap := h' }) →
      wpAny (model prog w) A (draw (.ref s.heap.objs.size) 2) R E s1 := fun s1 R it1 l1 k => by
    show wpAny _ _ (pyNext (.ref s.heap.objs.size) >>= _) R E s1
    refine wpAny_bind (wpAny_pyNext_list_item it1 l1 (x := u) rfl fun h1 st1 sb1 => wpAny_bind (wpAny_holding ?_))
    show wpAny _ _ (pyNext (.ref s.heap.objs.size) >>= _) _ _ _
    refine wpAny_bind (wpAny_pyNext_list_item (s := { s1 with heap := h1 }) st1 (l1.extBut sb1.extBut hlt) (x := v) rfl fun h2 st2 sb2 => wpAny_bind (wpAny_holding ?_))
    exact wpAny_pure (wpAny_pure (wpAny_pure (k h2 st2 (sb1.trans sb2))))
  refine wpAny_bind (wpAny_holding (d2 _ _ st0 l0 fun h1 st1 sb1 => ?_))
  rw [if_neg (by simp)]
  have l1 : h1.IsList l #[u, v] := l0.extBut sb1.extBut hlt
  refine wpAny_bind (wpAny_holding (wpAny_pyNext_list_end hh st1 l1 rfl fun h2 e2 => ?_))
  simp only [Option.isSome_none, Bool.false_eq_true, if_false]
  exact wpAny_pure (hQ h2 fun b o hb e => e2 b o hb (sb1.extBut b o hb (Heap.get?_push_of_some _ e)))
end
section
variable {X : Cx}
def gLst2 (t : TGs) : TG := fun v σ H Q => ∃ a x y, v = .ref a ∧ H a = some (.lst [x, y]) ∧ t [x, y] σ H Q
theorem pg_lst2 {es : List Expr} {k : Nat} {t : TGs} {pos : Pos} (hc : X.calm = true) (h : PGs X es t)
    (hn : (assignEach es X.env).length = 2 := by with_unfolding_all rfl) (hst : (assignEach es X.env).findIdx? (·.1) = none := by with_unfolding_all rfl) : PG X (.Tuple es k pos) (gLst2 t) := by
  intro pins s σ H v u Q I r hw
  obtain ⟨a, x, y, rfl, ha, hw⟩ := hw
  cases r
  obtain ⟨its, n, rv, ho, hz⟩ := I.lst ha
  obtain ⟨p, q, rfl, rp, rq⟩ := vals2 rv
  rw [assign_Tuple]
  refine wpAny_bind (wpAny_standAt ?_)
  unfold unpack
  rw [hn, hst]
  refine wpAny_bind (wpAny_holding (unpack_list2 (I.ok.hd hc) ⟨_, ho, rfl, n, rfl⟩ fun h' hx => ?_))
  have I1 : Inv X pins σ H { s with heap := h' } := I.kept (t' := s.toks) fun b o e => hx b o (Nat.ne_of_lt (Heap.lt_size e)) e
  exact h pins _ σ H [x, y] _ Q I1 (.cons rp (.cons rq .nil)) hw
end
end L2

namespace L2
open PySem PySem.Spec PyProof.Rows
/-! ### the head, where one code table may grow -/
theorem law_callT {P : Program} {w : World} {K : PySem.W.Frag} {mg mb : Str → Option Value} {k : Nat} {fa a T : Addr} {fd : FuncData} {x : Str} {sp : Sp} {s₁ : Shared} {vs : List Value} {ns : List Int}
    (KX : K.In s₁.heap) (hns : s₁.heap.Ns mainGlobals mg) (hb : s₁.heap.Ns builtinsNs mb) (hbb : ∀ x : Str, x ≠ "__name__" → mb x = bootBuiltins x) (hlim : s₁.heap.NoLimit) (hg : s₁.gens = #[])
    (hB : s₁.heap.BuiltinsAt mg T) (hT : s₁.heap.get? T = some (PySem.W.tabObj #[])) (hKT : K.lookup T = none) (hct : isCodeTable s₁.heap T)
    (ha : s₁.heap.get? a = some { cls := .type "list", data := .seq vs.toArray }) (hi : IntsAre vs ns) (hl : ns.length ≤ sizeLine) (hr : Room k callerA)
    (F : ∀ base : Heap, K.In base → base.Ns mainGlobals mg → base.BuiltinsAt mg T → FnOk P w K mg base CX0 k fa fd [x] sp) (hbind : ∀ (s : Shared) (u : Value), BindsTo s fd ⟨[u], []⟩ [(x, u)])
    (hsp : ∀ H : Hp, SqL K H a (ns.map V.int) → H T = some (.tbl #[]) → sp [.ref a] H (fun v _ => v = .bl true) fun _ _ _ => False) :
    codeAny (model P w) callerA (.call (.ref fa) ⟨[.ref a], []⟩) (fun r s' => r = .ok (.ret (.bool true)) ∧ OldK s₁.heap s'.heap ∧ s'.os = s₁.os ∧ AllBare s'.gens) s₁ := by
  have rv := vals_ints hi
  have lenV := hi.length
  have naT : a ≠ T := fun z => by rw [z, hT] at ha; cases ha
  have core : ∀ H : Hp, SqL K H a (ns.map V.int) → H T = some (.tbl #[]) → HOk P w H s₁.heap → (∀ b u, H b = some u → b = T ∨ (b = a ∧ ∃ o xs, u = .frz o (.lst xs))) → (H a ≠ none → K.lookup a = none) →
      codeAny (model P w) callerA (.call (.ref fa) ⟨[.ref a], []⟩) (fun r s' => r = .ok (.ret (.bool true)) ∧ OldK s₁.heap s'.heap ∧ s'.os = s₁.os ∧ AllBare s'.gens) s₁ := by
    intro H hS hHT hok hA hK
    have noA : ∀ {b : Addr} {o : Obj} {es : Array DictEntry} {ep : Nat}, s₁.heap.get? b = some o → o.data = .dict es ep → H b = none := fun {b o es ep} e d => by
      cases q : H b with
      | none => rfl
      | some u =>
        rcases hA b u q with z | ⟨z, _⟩
        · rw [z, hT] at e; cases e; cases d
        · rw [z, ha] at e; cases e; cases d
    have nsK : ∀ {b : Addr} {m : Str → Option Value}, s₁.heap.Ns b m → (hidT s₁.heap H).Ns b m := fun {b m} ⟨o, es, ep, e, d, r⟩ => ⟨o, es, ep, hidT_get e (noA e d), d, r⟩
    have hKb : K.In (hidT s₁.heap H) := fun b o e => hidT_get (KX b o e) (by
      cases q : H b with
      | none => rfl
      | some u =>
        rcases hA b u q with z | ⟨z, _⟩
        · rw [z, hKT] at e; cases e
        · have : H a ≠ none := by rw [← z, q]; simp
          rw [z, hK this] at e; cases e)
    have hM : Mod K mg (hidT s₁.heap H) := ⟨hKb, nsK hns, ⟨mb, nsK hb, hbb⟩, let ⟨mc, h1, h2⟩ := hlim; ⟨mc, nsK h1, h2⟩⟩
    have e0 : Env0 P w K mg (hidT s₁.heap H) callerA [] s₁ H := ⟨rfl, hM, fun b o e => of_hidT e, Nat.le_of_eq (hidT_size _ _), trivial, fun b z => absurd (show b ∈ ([] : List Addr) from z) (by simp), hok, .of_eq hg⟩
    have hBb : (hidT s₁.heap H).BuiltinsAt mg T := by
      obtain ⟨bm, ob, b1, b2, b3, b4, b5, b6, b7, b8⟩ := hB
      refine ⟨bm, ob, b1, b2, b3, b4, hidT_get b5 ?_, b6, b7, b8⟩
      cases q : H bm with
      | none => rfl
      | some u =>
        rcases hA bm u q with z | ⟨z, _⟩
        · exact absurd z b4
        · rw [z, ha] at b5; cases b5; simp at b6
    refine codeAny_mono ((F _ hKb (nsK hns) hBb).run callerA [] s₁ H ⟨[.ref a], []⟩ [.ref a] [.ref a] _ _ hr e0 (hbind s₁ (.ref a)) (.cons rfl .nil) (hsp H hS hHT)) fun r s' h => ?_
    cases r with
    | error e => exact (show False from h).elim
    | ok fl =>
      cases fl with
      | next => exact False.elim h
      | brk => exact False.elim h
      | cont => exact False.elim h
      | ret u =>
        obtain ⟨v, H', os, bare, un, hok', r', q⟩ := h
        have q' : v = .bl true := q
        subst q'
        obtain rfl : u = Value.bool true := r'
        refine ⟨rfl, ⟨fun b o e => ?_, fun b o e => un.there b o e (by simp)⟩, os, bare⟩
        cases q : H b with
        | none => exact .inl (un.keep b o e q (by intro z; exact absurd (show b ∈ ([] : List Addr) from z) (by simp)) (by simp))
        | some u =>
          rcases hA b u q with z | ⟨z, ob, xs, z1⟩
          · obtain ⟨more, e2⟩ := un.tbls b #[] (by rw [z]; exact hHT)
            have e3 := hok' b _ e2
            rw [z, hT] at e; cases e
            exact .inr (.inl ⟨z ▸ hct, rfl, #[], more, rfl, e3⟩)
          · rw [z1] at q
            have z2 := un.frzs b ob _ q
            obtain ⟨e1, _⟩ := hok b _ q
            obtain ⟨e2, _⟩ := hok' b _ z2
            rw [e] at e1; cases e1
            exact .inl e2
  cases hk : K.lookup a with
  | some o =>
    have e := KX a o hk
    rw [ha] at e
    cases e
    refine core (fun b => if b = T then some (.tbl #[]) else none) (.inr ⟨_, vs.toArray, _, hk, rfl, rfl, rfl, by rw [List.size_toArray, lenV]; exact hl, by simpa using rv⟩) (if_pos rfl) (fun b u z => ?_) (fun b u z => ?_) fun z => absurd (if_neg naT) z
    · by_cases hb : b = T
      · have z' := (if_pos hb).symm.trans z
        cases z'
        subst hb
        exact hT
      · cases (if_neg hb).symm.trans z
    · by_cases hb : b = T
      · exact .inl hb
      · cases (if_neg hb).symm.trans z
  | none =>
    refine core (fun b => if b = T then some (.tbl #[]) else if b = a then some (.frz { cls := .type "list", data := .seq vs.toArray } (.lst (ns.map V.int))) else none)
      (.inl (.inr ⟨{ cls := .type "list", data := .seq vs.toArray }, (if_neg naT).trans (if_pos rfl)⟩)) (if_pos rfl) (fun b u z => ?_) (fun b u z => ?_) fun _ => hk
    · by_cases hb : b = T
      · have z' := (if_pos hb).symm.trans z
        cases z'
        subst hb
        exact hT
      · have z1 := (if_neg hb).symm.trans z
        by_cases hb2 : b = a
        · have z' := (if_pos hb2).symm.trans z1
          cases z'
          subst hb2
          exact ⟨ha, by rw [List.length_map]; exact hl, vs, _, rv, ha⟩
        · cases (if_neg hb2).symm.trans z1
    · by_cases hb : b = T
      · exact .inl hb
      · have z1 := (if_neg hb).symm.trans z
        by_cases hb2 : b = a
        · have z' := (if_pos hb2).symm.trans z1
          cases z'
          exact .inr ⟨hb2, _, _, rfl⟩
        · cases (if_neg hb2).symm.trans z1
theorem walk_ofT {l : PySem.W.OpenLaw} {n k : Nat} {q : Program} {loose : List Str} {XP : (Str → Option Value) → Heap → Prop} {YP : World → Heap → Prop} {d : DefRec} {K : Params → PySem.W.Frag} {sp : World → Sp} {x : Str} {T : Addr}
    (hn : l.most = some n) (hn2 : n ≤ sizeLine) (hdf : d.params.defaults = []) (hr : Room k callerA)
    (hY : ∀ (w : World) (h : Heap), YP w h → (K w.params).In h ∧ h.get? T = some (PySem.W.tabObj #[]))
    (F : ∀ (w : World) (mg : Str → Option Value) (fa : Addr) (h : Heap), (K w.params).In h → h.Ns mainGlobals mg → mg d.name = some (.ref fa) →
      (K w.params).lookup T = none ∧ (∃ c, PySem.W.codeHdIn (K w.params) c T = true) ∧ ∃ fd : FuncData, (∀ (s : Shared) (u : Value), BindsTo s fd ⟨[u], []⟩ [(x, u)]) ∧
        ∀ base : Heap, (K w.params).In base → base.Ns mainGlobals mg → base.BuiltinsAt mg T → FnOk l.prog w (K w.params) mg base CX0 k fa fd [x] (sp w))
    (hsp : ∀ (w : World) (H : Hp) (a : Addr) (ns : List Int), ns.length ≤ n → SqL (K w.params) H a (ns.map V.int) → H T = some (.tbl #[]) → sp w [.ref a] H (fun v _ => v = .bl true) fun _ _ _ => False) :
    PySem.W.WalkO q loose XP YP l.row.toRowW d [] (fun f vs => PySem.call f vs) := by
  refine Att.attach_call hn hdf fun w s₀ s₁ mg mb fa o pm cd doc a vs ns G Y ho hd hcd hmg hobj hints hlen hg => ?_
  obtain ⟨KX, hT⟩ := hY w _ Y
  obtain ⟨hKT, ⟨c, hc⟩, fd, hb, hF⟩ := F w mg fa _ KX G.T.g hmg
  obtain ⟨oc, vs', _, _, _, _, _, _, _, g1, g2, g3, g4, _⟩ := PySem.W.codeHd_of_K KX hc
  have hB : s₁.heap.BuiltinsAt mg T := by
    obtain ⟨bm, ob, b1, b2, b3, b4, b5, b6⟩ := G.T.bmain
    refine ⟨bm, ob, b1, b2, fun z => ?_, fun z => ?_, b3, b4, b5, b6⟩
    · obtain ⟨o, es, ep, e, hd', _⟩ := G.T.g
      rw [z, e] at b3; cases b3; rw [hd'] at b6; cases b6
    · rw [z, hT] at b3; cases b3; cases b4
  exact law_callT KX G.T.g G.T.b G.T.builtins G.T.nolimit hg hB hT hKT ⟨c, oc, vs', g1, g2, g3, g4⟩ hobj hints (Nat.le_trans hlen hn2) hr hF hb fun H hS hHT => hsp w H a ns hlen hS hHT
end L2
namespace L2
open PySem PySem.Spec PyProof.Rows
section
variable {X : Cx}
def rMax2F : List V → Hp → VK → Prop := fun xs H Q => match xs with
  | [.int i, .int j] => Q (.int (if j > i then j else i)) H
  | _ => False
def rMin2F : List V → Hp → VK → Prop := fun xs H Q => match xs with
  | [.int i, .int j] => Q (.int (if j < i then j else i)) H
  | _ => False
theorem call_max2F (hc : X.calm = true) : CallR X (.builtin "max") rMax2F := by
  intro pins s σ H xs us Q I r h
  unfold rMax2F at h
  split at h
  · exact call_max2 hc pins s σ H _ us Q I r ⟨_, _, rfl, h⟩
  · exact h.elim
theorem call_min2F (hc : X.calm = true) : CallR X (.builtin "min") rMin2F := by
  intro pins s σ H xs us Q I r h
  unfold rMin2F at h
  split at h
  · exact call_min2 hc pins s σ H _ us Q I r ⟨_, _, rfl, h⟩
  · exact h.elim
theorem rMax2F_at {i j : Int} {H : Hp} {Q : VK} : rMax2F [.int i, .int j] H Q = Q (.int (if j > i then j else i)) H := rfl
theorem rMin2F_at {i j : Int} {H : Hp} {Q : VK} : rMin2F [.int i, .int j] H Q = Q (.int (if j < i then j else i)) H := rfl
end
end L2
namespace L2
open PySem PySem.Spec PyProof.Rows
/-! ### a comprehension within another one -/
theorem re_look {g : Str × NameKind → NameKind} (hg : ∀ p, p.2 = .cell ∨ p.2 = .free → g p = .cell ∨ g p = .free) : ∀ {names : List (Str × NameKind)} {x : Str}, (names.lookup x = some .cell ∨ names.lookup x = some .free) →
    ((names.map fun p => (p.1, g p)).lookup x = some .cell ∨ (names.map fun p => (p.1, g p)).lookup x = some .free)
  | [], x, h => by simp at h
  | (n, k) :: r, x, h => by
    rw [List.map_cons, List.lookup_cons]
    rw [List.lookup_cons] at h
    cases e : (x == n) with
    | true =>
      rw [e] at h
      simp only at h ⊢
      have := hg (n, k) (by simpa using h)
      simpa using this
    | false =>
      rw [e] at h
      simp only at h ⊢
      exact re_look hg h
theorem relabel_names (sc : Scope) (env : Env) : ∃ g : Str × NameKind → NameKind, (∀ p, p.2 = .cell ∨ p.2 = .free → g p = .cell ∨ g p = .free) ∧ (relabel sc env).names = sc.names.map fun p => (p.1, g p) := by
  refine ⟨fun p => if (p.2 == NameKind.free && env.scope.kind == .function && env.kindOf p.1 == some .cell) then .cell else p.2, fun p h => ?_, ?_⟩
  · dsimp only
    split
    · exact .inl rfl
    · exact h
  · unfold relabel
    dsimp only
    apply List.map_congr_left
    intro p _
    obtain ⟨n, k⟩ := p
    dsimp only
    split <;> rfl
theorem LcScope.re {up : Scope} {N : List Str} {sc : Scope} {Nc : List Str} {ix : List (Option Nat)} {env : Env} (S : LcScope up N sc Nc ix) : LcScope (relabel up env) N sc Nc ix := by
  obtain ⟨g, hg, e⟩ := relabel_names up env
  refine ⟨S.kind, S.nocell, S.loc, fun y hy h => ?_, S.nd, S.len, fun p hp => ?_⟩
  · rw [e]; exact re_look hg (S.free y hy h)
  · have := S.map p hp
    revert this
    cases p.2 with
    | none => intro _; rfl
    | some j =>
      intro this
      simp only [Bool.and_eq_true, decide_eq_true_eq] at this ⊢
      obtain ⟨⟨⟨h1, h2⟩, h3⟩, h4⟩ := this
      exact ⟨⟨⟨h1, by rw [e]; exact re_look hg h2⟩, h3⟩, h4⟩
end L2

namespace K2
open PySem L2
def top (i : Nat) : Stmt := PySem.Challenge.pw_lockstretch_k01_lots.main.body.getD i (.Pass ⟨0, 0, 0, 0⟩)
/-! ### what the data are -/
def isIntD : D → Bool
  | .int _ => true
  | _ => false
def endOk (f : Int) : D → Bool
  | .non => true
  | .int g => decide (f < g)
  | _ => false
def isStD : D → Bool
  | .tup [.int f, e] => decide (0 ≤ f) && endOk f e
  | _ => false
def tyD : D → String
  | .non => "NoneType"
  | .bl _ => "bool"
  | .int _ => "int"
  | .str _ => "str"
  | .tup _ => "tuple"
  | .lst _ => "list"
theorem tyN_of {H : Hp} {d : D} {v : V} (h : Rep H d v) : tyN H v = some (tyD d) := by
  cases d with
  | non => rw [h.non_of]; rfl
  | bl b => rw [h.bl_of]; rfl
  | int b => rw [h.int_of]; rfl
  | str b => rw [h.str_of]; rfl
  | tup ds => obtain ⟨a, vs, rfl, ha, _⟩ := h.tup_of; simp [tyN, ha, tyD]
  | lst ds => obtain ⟨a, vs, rfl, ha, _⟩ := h.lst_of; simp [tyN, ha, tyD]
section
variable {P : Program} {w : World} {K : PySem.W.Frag} {mg : Str → Option Value} {base : Heap}
/-! ### is_whole -/
def spWhole : Sp := fun vs H Q _ => ∃ v d, vs = [v] ∧ Rep H d v ∧ Q (.bl (isIntD d)) H
theorem sc_is_whole : FnScope ["thing"] ["thing"] (defScope (top 1)) := ⟨rfl, rfl, rfl, by decide +kernel, rfl, by decide +kernel, by decide +kernel⟩
theorem ok_whole (d : Def K mg "is_whole" (top 1)) (M : Mods mg) : Cal P w K mg base "is_whole" 1 ["thing"] spWhole := by
  refine d.ok sc_is_whole (fun vs H Q E h => ?_) (fun _ _ _ _ _ _ us hl => match us, hl with | [_], _ => rfl) (fun f cdv A outer s H vs Q E hr h => ?_)
  · obtain ⟨v, d, rfl, _⟩ := h
    rfl
  · obtain ⟨v, d, rfl, hd, k⟩ := h
    apply Exists.intro; apply And.intro
    · (conv => arg 2; whnf)
      with_reducible exact (pss_one (ps_ret (pe_and (pe_callB call_isi (by with_unfolding_all rfl) M.isinstance boot_isinstance' (pa_cons (pv 0) (pa_cons (pe_bltn (v := .ty "int") (by with_unfolding_all rfl) M.int boot_int' (by with_unfolding_all rfl)) pa_nil))) (pe_one (pe_not (pe_callB call_isi (by with_unfolding_all rfl) M.isinstance boot_isinstance' (pa_cons (pv 0) (pa_cons (pe_bltn (v := .ty "bool") (by with_unfolding_all rfl) M.bool boot_bool' (by with_unfolding_all rfl)) pa_nil))))))))
    have ty := tyN_of hd
    cases d <;> simp [tRet, tAndV, tNotV, tCB, tCons, tVar, tC, tNil, rIsi, L2.start, ty, tyD, isiN, isIntD] at k ⊢ <;> exact k
/-! ### reaches -/
def endV : Option Int → V
  | none => .non
  | some e => .int e
def endD : Option Int → D
  | none => .non
  | some e => .int e
theorem rep_end {H : Hp} (e : Option Int) : Rep H (endD e) (endV e) := by
  cases e
  · exact Rep.non
  · exact Rep.int
def reach (e : Option Int) (c : Int) : Bool := match e with
  | none => true
  | some e => decide (c ≤ e)
def spReaches : Sp := fun vs H Q _ => ∃ e c, vs = [endV e, .int c] ∧ Q (.bl (reach e c)) H
theorem sc_reaches : FnScope ["end", "cell"] ["end", "cell"] (defScope (top 12)) := ⟨rfl, rfl, rfl, by decide +kernel, rfl, by decide +kernel, by decide +kernel⟩
theorem ok_reaches (d : Def K mg "reaches" (top 12)) (M : Mods mg) : Cal P w K mg base "reaches" 1 ["end", "cell"] spReaches := by
  refine d.ok sc_reaches (fun vs H Q E h => ?_) (fun _ _ _ _ _ _ us hl => match us, hl with | [_, _], _ => rfl) (fun f cdv A outer s H vs Q E hr h => ?_)
  · obtain ⟨e, c, rfl, _⟩ := h
    rfl
  · obtain ⟨e, c, rfl, k⟩ := h
    apply Exists.intro; apply And.intro
    · (conv => arg 2; whnf)
      with_reducible exact (pss_one (ps_ret (pe_or (pe_cmp (pc_isN (pv 0))) (pe_one (pe_cmpR op_ge (pv 0) (pv 1) (by with_unfolding_all exact (nomark _)))))))
    cases e <;> simp [tRet, tOrV, tIsN, tOp, rI0, tVar, tC, L2.start, reach, endV] at k ⊢ <;> exact k
/-! ### is_stretch -/
def spStretch : Sp := fun vs H Q _ => ∃ v d, vs = [v] ∧ Rep H d v ∧ Q (.bl (isStD d)) H
theorem whole_eq {H : Hp} {d : D} {v : V} {Q : VK} {E : XK} (hd : Rep H d v) : spWhole [v] H Q E = Q (.bl (isIntD d)) H := by
  refine propext ⟨fun h => ?_, fun h => ⟨v, d, rfl, hd, h⟩⟩
  obtain ⟨v', d', e, hd', q⟩ := h
  cases e
  rw [Rep.inj hd hd']; exact q
theorem sc_is_stretch : FnScope ["thing", "first", "end"] ["thing"] (defScope (top 2)) := ⟨rfl, rfl, rfl, by decide +kernel, rfl, by decide +kernel, by decide +kernel⟩
theorem ok_stretch (d : Def K mg "is_stretch" (top 2)) (M : Mods mg) (c_whole : Cal P w K mg base "is_whole" 1 ["thing"] spWhole) : Cal P w K mg base "is_stretch" 2 ["thing"] spStretch := by
  refine d.ok sc_is_stretch (fun vs H Q E h => ?_) (fun _ _ _ _ _ _ us hl => match us, hl with | [_], _ => rfl) (fun f cdv A outer s H vs Q E hr h => ?_)
  · obtain ⟨v, d, rfl, _⟩ := h
    rfl
  · obtain ⟨v, d, rfl, hd, k⟩ := h
    apply Exists.intro; apply And.intro
    · (conv => arg 2; whnf)
      with_reducible exact (pss_cons (ps_if (PW.pt (pw_or (pt_not (pt_val (pe_callB call_isi (by with_unfolding_all rfl) M.isinstance boot_isinstance' (pa_cons (pv 0) (pa_cons (pe_bltn (v := .ty "tuple") (by with_unfolding_all rfl) M.tuple boot_tuple' (by with_unfolding_all rfl)) pa_nil))))) (pw_or1 (pt_cmpR op_ne (pe_callB call_lenF (by with_unfolding_all rfl) M.len PySem.boot_len (pa_cons (pv 0) pa_nil)) pe_int (by with_unfolding_all exact (nomark _)))))) (pss_one (ps_ret pe_bl)) pss_nil)
      (pss_cons (ps_asg (pv 0) (pg_tupF (n := 2) (by with_unfolding_all rfl) (pgs_cons (pg_name (i := 1) sc_is_stretch.nd (by with_unfolding_all rfl) (by with_unfolding_all exact (Or.inl rfl))) (pgs_cons (pg_name (i := 2) sc_is_stretch.nd (by with_unfolding_all rfl) (by with_unfolding_all exact (Or.inl rfl))) pgs_nil))))
      (pss_cons (ps_if (PW.pt (pw_or (pt_not (pt_val (pe_cal c_whole (hr.mono (by decide)) (pa_cons (pv 1) pa_nil)))) (pw_or1 (pt_cmpR op_lt (pv 1) pe_int (by with_unfolding_all exact (nomark _)))))) (pss_one (ps_ret pe_bl)) pss_nil)
      (pss_one (ps_ret (pe_or (pe_cmp (pc_isN (pv 2))) (pe_one (pe_and (pe_cal c_whole (hr.mono (by decide)) (pa_cons (pv 2) pa_nil)) (pe_one (pe_cmpR op_lt (pv 1) (pv 2) (by with_unfolding_all exact (nomark _))))))))))))
    have ty := tyN_of hd
    have e0 : L2.start ["thing", "first", "end"] [v] = [some v, none, none] := rfl
    rw [e0]
    cases d with
    | tup ds =>
      obtain ⟨a, vs, rfl, ha, hrp⟩ := hd.tup_of
      have no : vs.length ≠ 2 → isStD (.tup ds) = false := fun h => by
        rw [hrp.length] at h
        match ds, h with
        | [], _ => rfl
        | [_], _ => simp [isStD]
        | [_, _], h => exact absurd rfl h
        | _ :: _ :: _ :: _, _ => simp [isStD]
      by_cases hl : vs.length = 2
      · have hl' := hl
        rw [hrp.length] at hl'
        match ds, hl' with
        | [x, y], _ =>
          obtain ⟨v1, r1, rfl, h1, hr1⟩ := hrp.uncons
          obtain ⟨v2, r2, rfl, h2, hr2⟩ := hr1.uncons
          rw [hr2.unnil] at ha
          simp only [isStD] at k
          simp [tSeq, tIfS, tOr, tNot, tB, tCB, tCons, tVar, tC, tNil, rIsi, ty, tyD, isiN, tTest, tOp, rNe, scal, rLenF, seqAt_tup ha, on_some, tNext, tAsg, gTupF, tupAt_tup ha, gCons_cons, gNil_nil, gName, tCall, whole_eq h1, tRet]
          cases x with
          | int g =>
            have e1 := h1.int_of
            subst e1
            simp [isIntD, rI0, tOrV, tIsN, tAndV, tCall, tCons, tVar, tC, tNil, whole_eq h2, tOp]
            by_cases hg : g < 0
            · have : ¬ 0 ≤ g := by omega
              simp [this] at k
              simp [hg, k]
            · have : 0 ≤ g := by omega
              simp [this] at k
              simp [hg]
              cases y with
              | non => have e2 := h2.non_of; subst e2; simp [endOk] at k ⊢; exact ⟨this, k⟩
              | int z => have e2 := h2.int_of; subst e2; simp [endOk, isIntD] at k ⊢; exact ⟨this, k⟩
              | bl b => have e2 := h2.bl_of; subst e2; simp [endOk, isIntD] at k ⊢; exact ⟨this, k⟩
              | str b => have e2 := h2.str_of; subst e2; simp [endOk, isIntD] at k ⊢; exact ⟨this, k⟩
              | tup b => obtain ⟨_, _, e2, _⟩ := h2.tup_of; subst e2; simp [endOk, isIntD] at k ⊢; exact ⟨this, k⟩
              | lst b => obtain ⟨_, _, e2, _⟩ := h2.lst_of; subst e2; simp [endOk, isIntD] at k ⊢; exact ⟨this, k⟩
          | _ => simp [isIntD, isStD] at k ⊢; exact k
      · rw [no hl] at k
        have hl2 : ¬ (vs.length : Int) = 2 := by omega
        simp [tSeq, tIfS, tOr, tNot, tB, tCB, tCons, tVar, tC, tNil, rIsi, ty, tyD, isiN, tTest, tOp, rNe, scal, rLenF, seqAt_tup ha, on_some, hl2, tRet]
        exact k
    | _ => 
      simp [tSeq, tIfS, tOr, tNot, tB, tCB, tCons, tVar, tC, tNil, rIsi, ty, tyD, isiN, tRet]
      exact k
/-! ### is_lot -/
abbrev S := Int × Option Int
def stD (x : S) : D := .tup [.int x.1, endD x.2]
def stOk (x : S) : Bool := decide (0 ≤ x.1) && (match x.2 with
  | none => true
  | some e => decide (x.1 < e))
def toS : D → S
  | .tup [.int f, .int e] => (f, some e)
  | .tup [.int f, _] => (f, none)
  | _ => (0, none)
theorem isSt_of {d : D} (h : isStD d = true) : d = stD (toS d) ∧ stOk (toS d) = true := by
  unfold isStD at h
  split at h
  · rename_i f e
    simp only [Bool.and_eq_true, decide_eq_true_eq] at h
    cases e <;> simp [endOk] at h <;> simp [toS, stD, endD, stOk, h]
  · cases h
theorem toS_stD (x : S) : toS (stD x) = x := by
  obtain ⟨f, e⟩ := x
  cases e <;> rfl
theorem isSt_stD (x : S) : isStD (stD x) = stOk x := by
  obtain ⟨f, e⟩ := x
  cases e <;> rfl
def gapsS : List S → Bool
  | a :: b :: r => !reach a.2 b.1 && gapsS (b :: r)
  | _ => true
def isLotD : D → Bool
  | .tup ds => ds.all isStD && gapsS (ds.map toS)
  | _ => false
theorem gapsS_get : ∀ {l : List S} {i : Nat} {a b : S}, gapsS l = true → l[i]? = some a → l[i + 1]? = some b → reach a.2 b.1 = false
  | [], i, a, b, _, h, _ => by simp at h
  | [x], i, a, b, _, _, h => by simp at h
  | x :: y :: r, 0, a, b, h, h1, h2 => by
    simp at h1 h2
    subst h1 h2
    simp [gapsS] at h
    exact h.1
  | x :: y :: r, i + 1, a, b, h, h1, h2 => by
    simp [gapsS] at h
    exact gapsS_get (l := y :: r) (i := i) h.2 (by simpa using h1) (by simpa using h2)
theorem gapsS_of : ∀ {l : List S}, (∀ (i : Nat) (a b : S), l[i]? = some a → l[i + 1]? = some b → reach a.2 b.1 = false) → gapsS l = true
  | [], _ => rfl
  | [x], _ => rfl
  | x :: y :: r, h => by
    have h0 := h 0 x y rfl rfl
    have hr := gapsS_of (l := y :: r) fun i a b h1 h2 => h (i + 1) a b (by simpa using h1) (by simpa using h2)
    simp [gapsS, h0, hr]
theorem Rep.end_of {H : Hp} {e : Option Int} {v : V} (h : Rep H (endD e) v) : v = endV e := by
  cases e
  · exact h.non_of
  · exact h.int_of
theorem reaches_eq {H : Hp} {e : Option Int} {c : Int} {Q : VK} {E : XK} : spReaches [endV e, .int c] H Q E = Q (.bl (reach e c)) H := by
  refine propext ⟨fun h => ?_, fun h => ⟨e, c, rfl, h⟩⟩
  obtain ⟨e', c', q, h⟩ := h
  have : e = e' := by cases e <;> cases e' <;> simp [endV] at q <;> simp [q]
  subst this
  simp at q
  subst q
  exact h
def spLot : Sp := fun vs H Q _ => ∃ v d, vs = [v] ∧ Rep H d v ∧ ∀ H', Same H H' → Q (.bl (isLotD d)) H'
theorem stretch_eq {H : Hp} {d : D} {v : V} {Q : VK} {E : XK} (hd : Rep H d v) : spStretch [v] H Q E = Q (.bl (isStD d)) H := by
  refine propext ⟨fun h => ?_, fun h => ⟨v, d, rfl, hd, h⟩⟩
  obtain ⟨v', d', e, hd', q⟩ := h
  cases e
  rw [Rep.inj hd hd']; exact q
theorem sc_is_lot : FnScope ["thing", "stretch", "ahead", "behind"] ["thing"] (defScope (top 3)) := ⟨rfl, rfl, rfl, by decide +kernel, rfl, by decide +kernel, by decide +kernel⟩
theorem ok_lot (d : Def K mg "is_lot" (top 3)) (M : Mods mg) (c_stretch : Cal P w K mg base "is_stretch" 2 ["thing"] spStretch) (c_reaches : Cal P w K mg base "reaches" 1 ["end", "cell"] spReaches) : Cal P w K mg base "is_lot" 3 ["thing"] spLot := by
  refine d.ok sc_is_lot (fun vs H Q E h => ?_) (fun _ _ _ _ _ _ us hl => match us, hl with | [_], _ => rfl) (fun f cdv A outer s H vs Q E hr h => ?_)
  · obtain ⟨v, d, rfl, _⟩ := h
    rfl
  · obtain ⟨v, d, rfl, hd, k⟩ := h
    apply Exists.intro; apply And.intro
    · (conv => arg 2; whnf)
      with_reducible exact (pss_cons (ps_if (pt_not (pt_val (pe_callB call_isi (by with_unfolding_all rfl) M.isinstance boot_isinstance' (pa_cons (pv 0) (pa_cons (pe_bltn (v := .ty "tuple") (by with_unfolding_all rfl) M.tuple boot_tuple' (by with_unfolding_all rfl)) pa_nil))))) (pss_one (ps_ret pe_bl)) pss_nil)
      (pss_cons (ps_for PassesOwn.never (by with_unfolding_all rfl) (pi_tup (pv 0)) (pg_name (i := 1) sc_is_lot.nd (by with_unfolding_all rfl) (by with_unfolding_all exact (Or.inl rfl))) (pss_one (ps_if (pt_not (pt_val (pe_cal c_stretch (hr.mono (by decide)) (pa_cons (pv 1) pa_nil)))) (pss_one (ps_ret pe_bl)) pss_nil)))
      (pss_cons (ps_for PassesOwn.never (by with_unfolding_all rfl) (pi_zip (by with_unfolding_all rfl) M.zip (pa_cons (pv 0) (pa_cons (pe_slice sl_tupF (pv 0) (po_some pe_int) po_none) pa_nil))) (pg_tupF (n := 2) (by with_unfolding_all rfl) (pgs_cons (pg_name (i := 2) sc_is_lot.nd (by with_unfolding_all rfl) (by with_unfolding_all exact (Or.inl rfl))) (pgs_cons (pg_name (i := 3) sc_is_lot.nd (by with_unfolding_all rfl) (by with_unfolding_all exact (Or.inl rfl))) pgs_nil))) (pss_one (ps_if (pt_val (pe_cal c_reaches (hr.mono (by decide)) (pa_cons (pe_ix ix_F (pv 2) pe_int (by with_unfolding_all exact (fun _ _ => rfl))) (pa_cons (pe_ix ix_F (pv 3) pe_int (by with_unfolding_all exact (fun _ _ => rfl))) pa_nil)))) (pss_one (ps_ret pe_bl)) pss_nil)))
      (pss_one (ps_ret pe_bl)))))
    have ty := tyN_of hd
    have e0 : L2.start ["thing", "stretch", "ahead", "behind"] [v] = [some v, none, none, none] := rfl
    rw [e0]
    cases d with
    | tup ds =>
      obtain ⟨a, vs, rfl, ha, hrp⟩ := hd.tup_of
      simp [tSeq, tIfS, tNot, tB, tCB, tCons, tVar, tC, tNil, rIsi, ty, tyD, isiN, tNext]
      -- for stretch in thing
      refine ⟨_, rfl, a, rfl, ⟨_, SqT.of ha⟩, for_tup (K := K) (a := a) (xs := vs) (fun i σ H2 => H2 = H ∧ (∃ w', σ = [some (.ref a), w', none, none]) ∧ ∀ (j : Nat) d, j < i → ds[j]? = some d → isStD d = true) ?_ ?_ ?_ ?_⟩
      · exact ⟨rfl, ⟨none, rfl⟩, fun j d h => absurd h (Nat.not_lt_zero _)⟩
      · rintro i σ H2 _ ⟨rfl, _⟩; exact SqT.of ha
      · rintro i x σ H2 hx ⟨rfl, ⟨w', rfl⟩, hall⟩
        obtain ⟨dx, hdx, hrx⟩ := hrp.get' hx
        simp [gName, tCall, tCons, tVar, tNil, tNot, tB, stretch_eq hrx, tIfS, tRet, tC, tNext]
        cases hst : isStD dx with
        | true =>
          simp
          refine fun j d hj hjd => ?_
          rcases Nat.lt_succ_iff_lt_or_eq.mp hj with h | h
          · exact hall j d h hjd
          · subst h; rw [hdx] at hjd; cases hjd; exact hst
        | false =>
          simp
          have : isLotD (.tup ds) = false := by
            simp only [isLotD, Bool.and_eq_false_iff]
            left
            rw [List.all_eq_false]
            exact ⟨dx, List.mem_of_getElem? hdx, by simp [hst]⟩
          rw [this] at k
          exact k _ (Same.refl _)
      · rintro σ H2 ⟨rfl, ⟨w', rfl⟩, hall⟩
        have hall' : ds.all isStD = true := by
          rw [List.all_eq_true]
          intro d hd
          obtain ⟨j, hj, e⟩ := List.getElem_of_mem hd
          exact hall j d (by rw [hrp.length]; exact hj) (by rw [← e]; simp [hj])
        -- what the stretches are
        have hS : ∀ (j : Nat) d, ds[j]? = some d → d = stD (toS d) ∧ stOk (toS d) = true := fun j d h => isSt_of (hall j d (by rw [hrp.length]; exact (List.getElem?_eq_some_iff.mp h).1) h)
        have lotEq : isLotD (.tup ds) = gapsS (ds.map toS) := by simp [isLotD, hall']
        rw [lotEq] at k
        simp [tSeq, tFor_eq, iZip, zipK, tCons, tNil, tVar, tC, tSl, rSlTF, tupAt_tup ha, on_some, tPart, tNoPart, cutV_from1, -List.drop_one]
        refine ⟨fun p hp => ?_, fun hw => ?_⟩
        · have sp : Same H2 (upd H2 p (.tup (vs.drop 1))) := same_upd hp
          have nap : a ≠ p := ne_of_none ha hp
          refine ⟨⟨⟨_, sp _ _ ha⟩, ⟨_, upd_same⟩⟩, for_zip (xs := vs) (ys := vs.drop 1) (fun i σ H3 => Same H2 H3 ∧ H3 p = some (.tup (vs.drop 1)) ∧ (∃ s1 s2 s3, σ = [some (.ref a), s1, s2, s3]) ∧ ∀ (j : Nat) x y, j < i → ds[j]? = some x → ds[j + 1]? = some y → reach (toS x).2 (toS y).1 = false) ?_ ?_ ?_ ?_⟩
          · exact ⟨sp, upd_same, ⟨_, _, _, rfl⟩, fun j x y h => absurd h (Nat.not_lt_zero _)⟩
          · rintro i σ H3 ⟨s3, h3, _⟩; exact ⟨s3 _ _ ha, h3⟩
          · rintro i x y T σ H3 hx hy hT ⟨s3, h3, ⟨s1, s2, s4, rfl⟩, hall3⟩
            have sT : Same H3 (upd H3 T (.tup [x, y])) := same_upd hT
            have hy' : vs[i + 1]? = some y := by rw [List.getElem?_drop] at hy; rw [Nat.add_comm]; exact hy
            obtain ⟨dx, hdx, rx⟩ := hrp.get' hx
            obtain ⟨dy, hdy, ry⟩ := hrp.get' hy'
            obtain ⟨ex, okx⟩ := hS i dx hdx
            obtain ⟨ey, oky⟩ := hS (i + 1) dy hdy
            have rx3 := (rx.mono s3).mono sT
            have ry3 := (ry.mono s3).mono sT
            rw [ex] at rx3
            rw [ey] at ry3
            obtain ⟨ax, vx, rfl, hax, rvx⟩ := rx3.tup_of
            obtain ⟨ay, vy, rfl, hay, rvy⟩ := ry3.tup_of
            obtain ⟨x1, _, rfl, gx1, rvx⟩ := rvx.uncons
            obtain ⟨x2, _, rfl, gx2, rvx⟩ := rvx.uncons
            obtain ⟨y1, _, rfl, gy1, rvy⟩ := rvy.uncons
            obtain ⟨y2, _, rfl, gy2, rvy⟩ := rvy.uncons
            have := rvx.unnil; subst this
            have := rvy.unnil; subst this
            have := gx1.int_of; subst this
            have := gy1.int_of; subst this
            have := Rep.end_of gx2; subst this
            have := Rep.end_of gy2; subst this
            simp [gTupF, tupAt_tup (upd_same (H := H3)), on_some, gCons_cons, gNil_nil, gName, tIfS, tB, tCall, tCons, tOp, rIxF, tVar, tC, tNil, seqAt_tup hax, seqAt_tup hay, atI, ixN, reaches_eq, tNext, tRet]
            cases hre : reach (toS dx).2 (toS dy).1 with
            | true =>
              simp
              have : gapsS (ds.map toS) = false := by
                cases hg : gapsS (ds.map toS) with
                | false => rfl
                | true =>
                  have := gapsS_get hg (i := i) (a := toS dx) (b := toS dy) (by simp [hdx]) (by simp [hdy])
                  rw [hre] at this; cases this
              rw [this] at k
              exact k _ (s3.trans sT)
            | false =>
              simp
              refine ⟨s3.trans sT, by rw [← List.drop_one]; exact sT _ _ h3, fun j x' y' hj h1 h2 => ?_⟩
              rcases Nat.lt_succ_iff_lt_or_eq.mp hj with h | h
              · exact hall3 j x' y' h h1 h2
              · subst h; rw [hdx] at h1; rw [hdy] at h2; cases h1; cases h2; exact hre
          · rintro i σ H3 hend ⟨s3, h3, ⟨s1, s2, s4, rfl⟩, hall3⟩
            have : gapsS (ds.map toS) = true := gapsS_of fun j x y h1 h2 => by
              rw [List.getElem?_map, Option.map_eq_some_iff] at h1 h2
              obtain ⟨dx, h1, rfl⟩ := h1
              obtain ⟨dy, h2, rfl⟩ := h2
              refine hall3 j dx dy ?_ h1 h2
              have := (List.getElem?_eq_some_iff.mp h2).1
              have l := hrp.length
              simp at hend
              omega
            rw [this] at k
            exact k _ s3
        · have e : vs = [] := by
            cases vs with
            | nil => rfl
            | cons x xs =>
              have := congrArg List.length hw
              simp at this
          subst e
          have e : ds = [] := by
            have := hrp.length
            simpa using this.symm
          subst e
          refine ⟨⟨_, ha⟩, for_zip (xs := []) (ys := []) (fun i σ H3 => H3 = H2) rfl ?_ ?_ ?_⟩
          · rintro i σ H3 e; rw [e]; exact ⟨ha, ha⟩
          · intro i x y T σ H3 hx; simp at hx
          · rintro i σ H3 _ rfl
            exact k _ (Same.refl _)
    | _ =>
      simp [tSeq, tIfS, tOr, tNot, tB, tCB, tCons, tVar, tC, tNil, rIsi, ty, tyD, isiN, tRet]
      exact k _ (Same.refl _)
end
end K2

namespace K2
open PySem L2
/-! ### what stays but for dicts -/
def isDK : HO → Bool
  | .dK _ => true

  | _ => false
def SameT (H H' : Hp) : Prop := ∀ b o, H b = some o → isDK o = false → H' b = some o
theorem SameT.refl (H : Hp) : SameT H H := fun _ _ h _ => h
theorem SameT.trans {H H1 H2 : Hp} (a : SameT H H1) (b : SameT H1 H2) : SameT H H2 := fun c o h n => b c o (a c o h n) n
theorem SameT.of {H H' : Hp} (s : Same H H') : SameT H H' := fun b o h _ => s b o h
theorem SameT.sq {K : PySem.W.Frag} {H H' : Hp} {a : Addr} {xs : List V} (e : SameT H H') (h : SqL K H a xs) : SqL K H' a xs := by
  rcases h with (h | ⟨o, h⟩) | h
  · exact .inl (.inl (e _ _ h rfl))
  · exact .inl (.inr ⟨o, e _ _ h rfl⟩)
  · exact .inr h
mutual
theorem Rep.monoT {H H' : Hp} (k : SameT H H') : ∀ {d : D} {v : V}, Rep H d v → Rep H' d v
  | .non, _, h => by simpa [Rep] using h
  | .bl _, _, h => by simpa [Rep] using h
  | .int _, _, h => by simpa [Rep] using h
  | .str _, _, h => by simpa [Rep] using h
  | .tup ds, v, h => by
    rw [Rep] at h ⊢
    obtain ⟨a, vs, e, ha, r⟩ := h
    exact ⟨a, vs, e, k _ _ ha rfl, Reps.monoT k r⟩
  | .lst ds, v, h => by
    rw [Rep] at h ⊢
    obtain ⟨a, vs, e, ha, r⟩ := h
    exact ⟨a, vs, e, k _ _ ha rfl, Reps.monoT k r⟩
theorem Reps.monoT {H H' : Hp} (k : SameT H H') : ∀ {ds : List D} {vs : List V}, Reps H ds vs → Reps H' ds vs
  | [], vs, h => by rw [Reps] at h ⊢; exact h
  | d :: ds, vs, h => by
    rw [Reps] at h ⊢
    obtain ⟨v, r, e, h1, h2⟩ := h
    exact ⟨v, r, e, Rep.monoT k h1, Reps.monoT k h2⟩
end
/-! ### the town -/
def townKvs (c : Int) (r : Addr) : List (Key × V) := [(Sum.inr "count", V.int c), (Sum.inr "rests", V.ref r)]
theorem nrc : ¬ (("rests" : Str) = "count") := by decide +kernel
theorem ncr : ¬ (("count" : Str) = "rests") := by decide +kernel
theorem val_count (c : Int) (r : Addr) : valV (townKvs c r) (Sum.inr "count") = some (.int c) := by simp [townKvs, valV]
theorem val_rests (c : Int) (r : Addr) : valV (townKvs c r) (Sum.inr "rests") = some (.ref r) := by simp [townKvs, valV, ncr]
theorem put_count (c x : Int) (r : Addr) : putK (townKvs c r) (Sum.inr "count") (.int x) = townKvs x r := by simp [townKvs, putK, nrc]
structure Rests (kvs : List (Key × V)) : Prop where
  nd : (kvs.map (·.1)).Nodup
  kv : ∀ p ∈ kvs, ∃ i j : Int, p = (Sum.inl i, V.int j) ∧ 0 ≤ i ∧ i < 64
structure Town (H : Hp) (t r : Addr) : Prop where
  ne : t ≠ r
  tw : ∃ c, H t = some (.dK (townKvs c r))
  rs : ∃ kvs, H r = some (.dK kvs) ∧ Rests kvs
theorem Town.mono {H H' : Hp} {t r : Addr} (T : Town H t r) (s : Same H H') : Town H' t r := by
  obtain ⟨ne, ⟨c, h1⟩, kvs, h2, h3⟩ := T
  exact ⟨ne, ⟨c, s _ _ h1⟩, kvs, s _ _ h2, h3⟩
/-- few keys -/
theorem few_nat : ∀ (n : Nat) (l : List Nat), l.Nodup → (∀ x ∈ l, x < n) → l.length ≤ n
  | 0, l, _, h => by
    cases l with
    | nil => simp
    | cons x l => exact absurd (h x List.mem_cons_self) (Nat.not_lt_zero _)
  | n + 1, l, nd, h => by
    have h1 : (l.erase n).Nodup := nd.erase n
    have h2 := few_nat n (l.erase n) h1 fun x hx => by
      have := (List.Nodup.mem_erase_iff nd).mp hx
      have := h x this.2
      omega
    have h3 := List.length_erase (a := n) (l := l)
    split at h3 <;> omega
def keyN : Key × V → Nat
  | (.inl i, _) => i.toNat
  | _ => 0
theorem Rests.len {kvs : List (Key × V)} (R : Rests kvs) : kvs.length ≤ 64 := by
  have h := few_nat 64 (kvs.map keyN) ?_ ?_
  · simpa using h
  · have nd := R.nd
    rw [List.Nodup, List.pairwise_map] at nd ⊢
    refine nd.imp_of_mem fun {p q} hp hq ne e => ?_
    obtain ⟨i, j, rfl, h1, h2⟩ := R.kv p hp
    obtain ⟨i', j', rfl, h3, h4⟩ := R.kv q hq
    simp [keyN] at e
    have : i = i' := by omega
    subst this
    exact ne rfl
  · intro x hx
    obtain ⟨p, hp, rfl⟩ := List.mem_map.mp hx
    obtain ⟨i, j, rfl, h1, h2⟩ := R.kv p hp
    simp [keyN]
    omega
theorem Rests.val {kvs : List (Key × V)} (R : Rests kvs) {k : Key} {v : V} (h : valV kvs k = some v) : ∃ j : Int, v = .int j := by
  unfold valV at h
  rw [Option.map_eq_some_iff] at h
  obtain ⟨p, hp, rfl⟩ := h
  obtain ⟨i, j, rfl, _⟩ := R.kv p (List.mem_of_find?_eq_some hp)
  exact ⟨j, rfl⟩
theorem Rests.put {kvs : List (Key × V)} (R : Rests kvs) {i j : Int} (h1 : 0 ≤ i) (h2 : i < 64) : Rests (putK kvs (.inl i) (.int j)) := by
  unfold putK
  split
  · refine ⟨?_, fun p hp => ?_⟩
    · have e : (kvs.map fun kv => if kv.1 = (Sum.inl i : Key) then (kv.1, V.int j) else kv).map (·.1) = kvs.map (·.1) := by
        rw [List.map_map]
        apply List.map_congr_left
        intro p _
        simp only [Function.comp_apply]
        split <;> rfl
      rw [e]; exact R.nd
    · obtain ⟨q, hq, rfl⟩ := List.mem_map.mp hp
      split
      · obtain ⟨a, b, rfl, h3, h4⟩ := R.kv q hq
        exact ⟨a, j, rfl, h3, h4⟩
      · exact R.kv q hq
  · rename_i hno
    refine ⟨?_, fun p hp => ?_⟩
    · rw [List.map_append]
      refine nd_snoc R.nd fun m => hno ?_
      obtain ⟨q, hq, e⟩ := List.mem_map.mp m
      exact List.any_eq_true.mpr ⟨q, hq, decide_eq_true e⟩
    · rcases List.mem_append.mp hp with hp | hp
      · exact R.kv p hp
      · simp at hp
        exact ⟨i, j, hp, h1, h2⟩
section
variable {P : Program} {w : World} {K : PySem.W.Frag} {mg : Str → Option Value} {base : Heap}
/-! ### _law_draw -/
def spDraw (K : PySem.W.Frag) : Sp := fun vs H Q _ => ∃ a ns t r m, vs = [.ref a, .ref t, .int m] ∧ SqL K H a (List.map V.int ns) ∧ ns.length ≤ 63 ∧ Town H t r ∧ 0 < m ∧ m ≤ 1000000 ∧
  ∀ x H', 0 ≤ x → x < m → Town H' t r → SameT H H' → Q (.int x) H'
theorem mod_range (x m : Int) (h : 0 < m) : 0 ≤ x % m ∧ x % m < m := ⟨Int.emod_nonneg _ (by omega), Int.emod_lt_of_pos _ h⟩
theorem sc_law_draw : FnScope ["_law_script", "_law_town", "_law_many", "_law_at", "_law_rest", "_law_number"] ["_law_script", "_law_town", "_law_many"] (defScope (top 16)) := ⟨rfl, rfl, rfl, by decide +kernel, rfl, by decide +kernel, by decide +kernel⟩
theorem ok_draw (d : Def K mg "_law_draw" (top 16)) (M : Mods mg) : Cal P w K mg base "_law_draw" 1 ["_law_script", "_law_town", "_law_many"] (spDraw K) := by
  refine d.ok sc_law_draw (fun vs H Q E h => ?_) (fun _ _ _ _ _ _ us hl => match us, hl with | [_, _, _], _ => rfl) (fun f cdv A outer s H vs Q E hr h => ?_)
  · obtain ⟨a, ns, t, r, m, rfl, _⟩ := h
    rfl
  · obtain ⟨a, ns, t, r, m, rfl, hS, hns, T, hm, hm2, k⟩ := h
    have hu := hu_of hr
    apply Exists.intro; apply And.intro
    · (conv => arg 2; whnf)
      with_reducible exact (pss_cons (ps_dputF hu (pv 1) pe_str (pe_op op_add (pe_dgetF hu (pv 1) pe_str (by with_unfolding_all exact (fun _ _ => rfl))) pe_int) (by with_unfolding_all rfl))
      (pss_cons (ps_set (i := 3) sc_law_draw.nd (by with_unfolding_all rfl) (by with_unfolding_all exact (Or.inl rfl)) (pe_ifExp (pt_truth (pv 0) (by with_unfolding_all exact (fun _ => rfl))) (pe_op op_mod (pe_dgetF hu (pv 1) pe_str (by with_unfolding_all exact (fun _ _ => rfl))) (pe_callB call_len_seq (by with_unfolding_all rfl) M.len PySem.boot_len (pa_cons (pv 0) pa_nil))) pe_int))
      (pss_cons (ps_set (i := 4) sc_law_draw.nd (by with_unfolding_all rfl) (by with_unfolding_all exact (Or.inl rfl)) (pe_dget2F hu (pe_dgetF hu (pv 1) pe_str (by with_unfolding_all exact (fun _ _ => rfl))) (pv 3) (pe_ifExp (pt_truth (pv 0) (by with_unfolding_all exact (fun _ => rfl))) (pe_ix ix_list (pv 0) (pv 3) (by with_unfolding_all exact (fun _ _ => rfl))) pe_int) (by with_unfolding_all exact ⟨rfl, rfl, rfl, rfl⟩)))
      (pss_cons (ps_if (pt_cmpR op_ge (pv 4) (pe_op op_pow pe_int pe_int) (by with_unfolding_all exact (nomark _))) (pss_cons (ps_dputF hu (pe_dgetF hu (pv 1) pe_str (by with_unfolding_all exact (fun _ _ => rfl))) (pv 3) (pe_op op_fdiv (pv 4) (pv 2)) (by with_unfolding_all rfl))
      (pss_one (ps_ret (pe_op op_mod (pv 4) (pv 2))))) pss_nil)
      (pss_cons (ps_set (i := 5) sc_law_draw.nd (by with_unfolding_all rfl) (by with_unfolding_all exact (Or.inl rfl)) (pe_op op_mod (pe_op op_add (pv 4) (pe_op op_mul pe_int (pe_dgetF hu (pv 1) pe_str (by with_unfolding_all exact (fun _ _ => rfl))))) pe_int))
      (pss_cons (ps_set (i := 5) sc_law_draw.nd (by with_unfolding_all rfl) (by with_unfolding_all exact (Or.inl rfl)) (pe_op op_mod (pe_op op_pow (pv 5) pe_int) pe_int))
      (pss_one (ps_ret (pe_op op_mod (pe_op op_fdiv (pe_op op_mod (pe_op op_add (pe_op op_mul (pe_op op_fdiv (pv 5) pe_int) pe_int) (pv 5)) pe_int) pe_int) (pv 2))))))))))
    have e0 : L2.start ["_law_script", "_law_town", "_law_many", "_law_at", "_law_rest", "_law_number"] [.ref a, .ref t, .int m] = [some (.ref a), some (.ref t), some (.int m), none, none, none] := rfl
    rw [e0]
    obtain ⟨ne, ⟨c, ht⟩, kvs, hk, R⟩ := id T
    have hl2 : (townKvs c r).length < sizeLine := small1000 (by simp [townKvs])
    -- town["count"] = town["count"] + 1
    simp only [isi_0, isi_1, isi_2, isi_3, isi_4, isi_5, isi_6, isi_7, isi_8, isi_9, isi_10, isi_11, isi_12, isi_13, isi_14, isi_15, isi_16, isi_17, isi_18, isi_19, isi_20, isi_21, isi_22, isi_23, tSeq_at, tNext_at, tBreak_at, tCont_at, tRet_at, tRetN_at, tIfS_at, tAsg_at, tDrop_at, tPar_at, gName_at, gTupF_at, gCons_cons, gNil_nil, tVar_at, tC_at, tOp_at, tUn_at, tIf_at, tAnd_at, tOr_at, tNot_at, onB_bl, tAndV_at, tOrV_at, tNotV_at, tB_at, tTest_at, tIsN_at, tNotN_at, tTruth_at, tCB_at, tCall_at, tCons_at, tNil_at, tTup_at, tLst_at, rI0_at, rI_at, rU_at, rEq_at, rNe_at, rIxF_at, rLenF_at, rInF_at, rTupleF_at, rIsi_at, tDGetF_at, tDGet2F_at, sDPutF_at, dPutK_at, keyV_int, keyV_str, tBM_at, tRng_at, iList_at, iTup_at, onL_at, onT_at, iRng1_at, iZip_at, zipK_at, tSl_at, tNoPart_at, onI_int, tPart_at, rSlLF_at, rSlTF_at, rCatTF_at, tLc_at, tFor_eq, tYes_at, on_some, List.getElem?_cons_zero, List.getElem?_cons_succ, Option.join_some, List.set_cons_zero, List.set_cons_succ, List.nil_append, List.cons_append, List.append_nil, if_true, if_false, Bool.false_eq_true, reduceIte, Bool.not_true, Bool.not_false, Int.toNat_natCast, dctAt_dK ht, val_count, put_count]
    refine ⟨hl2, ?_⟩
    have s1 : SameT H (upd H t (.dK (townKvs (c + 1) r))) := fun b o h n => by
      rw [upd_ne (fun e => by subst e; rw [ht] at h; cases h; cases n)]; exact h
    generalize hH1 : upd H t (.dK (townKvs (c + 1) r)) = H1 at s1
    have ht1 : H1 t = some (.dK (townKvs (c + 1) r)) := by rw [← hH1]; exact upd_same
    have hk1 : H1 r = some (.dK kvs) := by rw [← hH1, upd_ne ne.symm]; exact hk
    have hS1 := s1.sq hS
    have T1 : Town H1 t r := ⟨ne, ⟨_, ht1⟩, kvs, hk1, R⟩
    have rest_int : ∀ (i z : Int), ∃ j : Int, (valV kvs (Sum.inl i)).getD (V.int z) = V.int j := fun i z => by
      cases e : valV kvs (Sum.inl i : Key) with
      | none => exact ⟨z, rfl⟩
      | some v => obtain ⟨j, rfl⟩ := R.val e; exact ⟨j, rfl⟩
    have hl64 : kvs.length < sizeLine := small1000 (Nat.le_trans R.len (by decide))
    have fin2 : ∀ (i j : Int), 0 ≤ i → i < 64 → Town (upd H1 r (.dK (putK kvs (.inl i) (.int j)))) t r ∧ SameT H (upd H1 r (.dK (putK kvs (.inl i) (.int j)))) := fun i j h0 h1 => by
      refine ⟨⟨ne, ⟨_, by rw [upd_ne ne]; exact ht1⟩, _, upd_same, R.put h0 h1⟩, fun b o h n => ?_⟩
      rw [upd_ne (fun e => by subst e; rw [hk] at h; cases h; cases n)]
      exact s1 b o h n
    refine ⟨!(ns.map V.int).isEmpty, .inl ⟨_, hS1, rfl⟩, ?_⟩
    cases hns0 : ns with
    | nil =>
      rw [hns0] at hS1
      simp only [isi_0, isi_1, isi_2, isi_3, isi_4, isi_5, isi_6, isi_7, isi_8, isi_9, isi_10, isi_11, isi_12, isi_13, isi_14, isi_15, isi_16, isi_17, isi_18, isi_19, isi_20, isi_21, isi_22, isi_23, tSeq_at, tNext_at, tBreak_at, tCont_at, tRet_at, tRetN_at, tIfS_at, tAsg_at, tDrop_at, tPar_at, gName_at, gTupF_at, gCons_cons, gNil_nil, tVar_at, tC_at, tOp_at, tUn_at, tIf_at, tAnd_at, tOr_at, tNot_at, onB_bl, tAndV_at, tOrV_at, tNotV_at, tB_at, tTest_at, tIsN_at, tNotN_at, tTruth_at, tCB_at, tCall_at, tCons_at, tNil_at, tTup_at, tLst_at, rI0_at, rI_at, rU_at, rEq_at, rNe_at, rIxF_at, rLenF_at, rInF_at, rTupleF_at, rIsi_at, tDGetF_at, tDGet2F_at, sDPutF_at, dPutK_at, keyV_int, keyV_str, tBM_at, tRng_at, iList_at, iTup_at, onL_at, onT_at, iRng1_at, iZip_at, zipK_at, tSl_at, tNoPart_at, onI_int, tPart_at, rSlLF_at, rSlTF_at, rCatTF_at, tLc_at, tFor_eq, tYes_at, on_some, List.getElem?_cons_zero, List.getElem?_cons_succ, Option.join_some, List.set_cons_zero, List.set_cons_succ, List.nil_append, List.cons_append, List.append_nil, if_true, if_false, Bool.false_eq_true, reduceIte, Bool.not_true, Bool.not_false, Int.toNat_natCast, List.map_nil, List.isEmpty_nil, dctAt_dK ht1, val_rests, dctAt_dK hk1]
      refine ⟨!(([] : List Int).map V.int).isEmpty, .inl ⟨_, hS1, rfl⟩, ?_⟩
      simp only [isi_0, isi_1, isi_2, isi_3, isi_4, isi_5, isi_6, isi_7, isi_8, isi_9, isi_10, isi_11, isi_12, isi_13, isi_14, isi_15, isi_16, isi_17, isi_18, isi_19, isi_20, isi_21, isi_22, isi_23, tSeq_at, tNext_at, tBreak_at, tCont_at, tRet_at, tRetN_at, tIfS_at, tAsg_at, tDrop_at, tPar_at, gName_at, gTupF_at, gCons_cons, gNil_nil, tVar_at, tC_at, tOp_at, tUn_at, tIf_at, tAnd_at, tOr_at, tNot_at, onB_bl, tAndV_at, tOrV_at, tNotV_at, tB_at, tTest_at, tIsN_at, tNotN_at, tTruth_at, tCB_at, tCall_at, tCons_at, tNil_at, tTup_at, tLst_at, rI0_at, rI_at, rU_at, rEq_at, rNe_at, rIxF_at, rLenF_at, rInF_at, rTupleF_at, rIsi_at, tDGetF_at, tDGet2F_at, sDPutF_at, dPutK_at, keyV_int, keyV_str, tBM_at, tRng_at, iList_at, iTup_at, onL_at, onT_at, iRng1_at, iZip_at, zipK_at, tSl_at, tNoPart_at, onI_int, tPart_at, rSlLF_at, rSlTF_at, rCatTF_at, tLc_at, tFor_eq, tYes_at, on_some, List.getElem?_cons_zero, List.getElem?_cons_succ, Option.join_some, List.set_cons_zero, List.set_cons_succ, List.nil_append, List.cons_append, List.append_nil, if_true, if_false, Bool.false_eq_true, reduceIte, Bool.not_true, Bool.not_false, Int.toNat_natCast, List.map_nil, List.isEmpty_nil, dctAt_dK ht1, val_rests, dctAt_dK hk1]
      obtain ⟨rest, hrest⟩ := rest_int 0 0
      rw [hrest]
      have h0 : (0 : Int) ≤ 0 := by decide
      have h1 : (0 : Int) < 64 := by decide
      simp only [isi_0, isi_1, isi_2, isi_3, isi_4, isi_5, isi_6, isi_7, isi_8, isi_9, isi_10, isi_11, isi_12, isi_13, isi_14, isi_15, isi_16, isi_17, isi_18, isi_19, isi_20, isi_21, isi_22, isi_23, tSeq_at, tNext_at, tBreak_at, tCont_at, tRet_at, tRetN_at, tIfS_at, tAsg_at, tDrop_at, tPar_at, gName_at, gTupF_at, gCons_cons, gNil_nil, tVar_at, tC_at, tOp_at, tUn_at, tIf_at, tAnd_at, tOr_at, tNot_at, onB_bl, tAndV_at, tOrV_at, tNotV_at, tB_at, tTest_at, tIsN_at, tNotN_at, tTruth_at, tCB_at, tCall_at, tCons_at, tNil_at, tTup_at, tLst_at, rI0_at, rI_at, rU_at, rEq_at, rNe_at, rIxF_at, rLenF_at, rInF_at, rTupleF_at, rIsi_at, tDGetF_at, tDGet2F_at, sDPutF_at, dPutK_at, keyV_int, keyV_str, tBM_at, tRng_at, iList_at, iTup_at, onL_at, onT_at, iRng1_at, iZip_at, zipK_at, tSl_at, tNoPart_at, onI_int, tPart_at, rSlLF_at, rSlTF_at, rCatTF_at, tLc_at, tFor_eq, tYes_at, on_some, List.getElem?_cons_zero, List.getElem?_cons_succ, Option.join_some, List.set_cons_zero, List.set_cons_succ, List.nil_append, List.cons_append, List.append_nil, if_true, if_false, Bool.false_eq_true, reduceIte, Bool.not_true, Bool.not_false, Int.toNat_natCast]
      refine ⟨⟨by decide, by decide, by decide⟩, ?_⟩
      by_cases hb : (10 : Int) ^ Int.toNat 18 ≤ rest
      · simp only [isi_0, isi_1, isi_2, isi_3, isi_4, isi_5, isi_6, isi_7, isi_8, isi_9, isi_10, isi_11, isi_12, isi_13, isi_14, isi_15, isi_16, isi_17, isi_18, isi_19, isi_20, isi_21, isi_22, isi_23, tSeq_at, tNext_at, tBreak_at, tCont_at, tRet_at, tRetN_at, tIfS_at, tAsg_at, tDrop_at, tPar_at, gName_at, gTupF_at, gCons_cons, gNil_nil, tVar_at, tC_at, tOp_at, tUn_at, tIf_at, tAnd_at, tOr_at, tNot_at, onB_bl, tAndV_at, tOrV_at, tNotV_at, tB_at, tTest_at, tIsN_at, tNotN_at, tTruth_at, tCB_at, tCall_at, tCons_at, tNil_at, tTup_at, tLst_at, rI0_at, rI_at, rU_at, rEq_at, rNe_at, rIxF_at, rLenF_at, rInF_at, rTupleF_at, rIsi_at, tDGetF_at, tDGet2F_at, sDPutF_at, dPutK_at, keyV_int, keyV_str, tBM_at, tRng_at, iList_at, iTup_at, onL_at, onT_at, iRng1_at, iZip_at, zipK_at, tSl_at, tNoPart_at, onI_int, tPart_at, rSlLF_at, rSlTF_at, rCatTF_at, tLc_at, tFor_eq, tYes_at, on_some, List.getElem?_cons_zero, List.getElem?_cons_succ, Option.join_some, List.set_cons_zero, List.set_cons_succ, List.nil_append, List.cons_append, List.append_nil, if_true, if_false, Bool.false_eq_true, reduceIte, Bool.not_true, Bool.not_false, Int.toNat_natCast, hb, decide_true, dctAt_dK ht1, val_rests, dctAt_dK hk1]
        exact ⟨⟨hm, by omega⟩, hl64, hm, k _ _ (mod_range _ _ hm).1 (mod_range _ _ hm).2 (fin2 _ _ h0 h1).1 (fin2 _ _ h0 h1).2⟩
      · simp only [isi_0, isi_1, isi_2, isi_3, isi_4, isi_5, isi_6, isi_7, isi_8, isi_9, isi_10, isi_11, isi_12, isi_13, isi_14, isi_15, isi_16, isi_17, isi_18, isi_19, isi_20, isi_21, isi_22, isi_23, tSeq_at, tNext_at, tBreak_at, tCont_at, tRet_at, tRetN_at, tIfS_at, tAsg_at, tDrop_at, tPar_at, gName_at, gTupF_at, gCons_cons, gNil_nil, tVar_at, tC_at, tOp_at, tUn_at, tIf_at, tAnd_at, tOr_at, tNot_at, onB_bl, tAndV_at, tOrV_at, tNotV_at, tB_at, tTest_at, tIsN_at, tNotN_at, tTruth_at, tCB_at, tCall_at, tCons_at, tNil_at, tTup_at, tLst_at, rI0_at, rI_at, rU_at, rEq_at, rNe_at, rIxF_at, rLenF_at, rInF_at, rTupleF_at, rIsi_at, tDGetF_at, tDGet2F_at, sDPutF_at, dPutK_at, keyV_int, keyV_str, tBM_at, tRng_at, iList_at, iTup_at, onL_at, onT_at, iRng1_at, iZip_at, zipK_at, tSl_at, tNoPart_at, onI_int, tPart_at, rSlLF_at, rSlTF_at, rCatTF_at, tLc_at, tFor_eq, tYes_at, on_some, List.getElem?_cons_zero, List.getElem?_cons_succ, Option.join_some, List.set_cons_zero, List.set_cons_succ, List.nil_append, List.cons_append, List.append_nil, if_true, if_false, Bool.false_eq_true, reduceIte, Bool.not_true, Bool.not_false, Int.toNat_natCast, hb, decide_false, dctAt_dK ht1, val_count]
        refine ⟨.inl ⟨by decide, by decide⟩, by decide, ?_⟩
        generalize hx : (rest + 104729 * (c + 1)) % 4294967291 = x
        have x0 : 0 ≤ x ∧ x < 4294967291 := by rw [← hx]; exact mod_range _ _ (by decide)
        refine ⟨⟨by decide, by decide, by omega⟩, by decide, ?_⟩
        generalize hy : x ^ Int.toNat 5 % 4294967279 = y
        have y0 : 0 ≤ y ∧ y < 4294967279 := by rw [← hy]; exact mod_range _ _ (by decide)
        refine ⟨⟨by decide, by decide⟩, .inr ⟨by decide, by decide⟩, by decide, ⟨by decide, by decide⟩, hm, k _ _ (mod_range _ _ hm).1 (mod_range _ _ hm).2 T1 s1⟩
    | cons n0 ns' =>
      rw [hns0] at hS1 hns
      simp only [isi_0, isi_1, isi_2, isi_3, isi_4, isi_5, isi_6, isi_7, isi_8, isi_9, isi_10, isi_11, isi_12, isi_13, isi_14, isi_15, isi_16, isi_17, isi_18, isi_19, isi_20, isi_21, isi_22, isi_23, tSeq_at, tNext_at, tBreak_at, tCont_at, tRet_at, tRetN_at, tIfS_at, tAsg_at, tDrop_at, tPar_at, gName_at, gTupF_at, gCons_cons, gNil_nil, tVar_at, tC_at, tOp_at, tUn_at, tIf_at, tAnd_at, tOr_at, tNot_at, onB_bl, tAndV_at, tOrV_at, tNotV_at, tB_at, tTest_at, tIsN_at, tNotN_at, tTruth_at, tCB_at, tCall_at, tCons_at, tNil_at, tTup_at, tLst_at, rI0_at, rI_at, rU_at, rEq_at, rNe_at, rIxF_at, rLenF_at, rInF_at, rTupleF_at, rIsi_at, tDGetF_at, tDGet2F_at, sDPutF_at, dPutK_at, keyV_int, keyV_str, tBM_at, tRng_at, iList_at, iTup_at, onL_at, onT_at, iRng1_at, iZip_at, zipK_at, tSl_at, tNoPart_at, onI_int, tPart_at, rSlLF_at, rSlTF_at, rCatTF_at, tLc_at, tFor_eq, tYes_at, on_some, List.getElem?_cons_zero, List.getElem?_cons_succ, Option.join_some, List.set_cons_zero, List.set_cons_succ, List.nil_append, List.cons_append, List.append_nil, if_true, if_false, Bool.false_eq_true, reduceIte, Bool.not_true, Bool.not_false, Int.toNat_natCast, List.map_cons, List.isEmpty_cons, dctAt_dK ht1, val_count]
      refine ⟨a, _, rfl, .inl hS1, ?_⟩
      have hlen : ((List.map V.int (n0 :: ns')).length : Int) = ((n0 :: ns').length : Int) := by simp
      rw [hlen]
      have hlp : (0 : Int) < ((n0 :: ns').length : Int) := by simp only [List.length_cons]; omega
      refine ⟨hlp, ?_⟩
      have hat := mod_range (c + 1) _ hlp
      generalize hatx : (c + 1) % ((n0 :: ns').length : Int) = at' at hat
      have h0 : 0 ≤ at' := hat.1
      have h1 : at' < 64 := by have := hat.2; simp at this hns; omega
      simp only [isi_0, isi_1, isi_2, isi_3, isi_4, isi_5, isi_6, isi_7, isi_8, isi_9, isi_10, isi_11, isi_12, isi_13, isi_14, isi_15, isi_16, isi_17, isi_18, isi_19, isi_20, isi_21, isi_22, isi_23, tSeq_at, tNext_at, tBreak_at, tCont_at, tRet_at, tRetN_at, tIfS_at, tAsg_at, tDrop_at, tPar_at, gName_at, gTupF_at, gCons_cons, gNil_nil, tVar_at, tC_at, tOp_at, tUn_at, tIf_at, tAnd_at, tOr_at, tNot_at, onB_bl, tAndV_at, tOrV_at, tNotV_at, tB_at, tTest_at, tIsN_at, tNotN_at, tTruth_at, tCB_at, tCall_at, tCons_at, tNil_at, tTup_at, tLst_at, rI0_at, rI_at, rU_at, rEq_at, rNe_at, rIxF_at, rLenF_at, rInF_at, rTupleF_at, rIsi_at, tDGetF_at, tDGet2F_at, sDPutF_at, dPutK_at, keyV_int, keyV_str, tBM_at, tRng_at, iList_at, iTup_at, onL_at, onT_at, iRng1_at, iZip_at, zipK_at, tSl_at, tNoPart_at, onI_int, tPart_at, rSlLF_at, rSlTF_at, rCatTF_at, tLc_at, tFor_eq, tYes_at, on_some, List.getElem?_cons_zero, List.getElem?_cons_succ, Option.join_some, List.set_cons_zero, List.set_cons_succ, List.nil_append, List.cons_append, List.append_nil, if_true, if_false, Bool.false_eq_true, reduceIte, Bool.not_true, Bool.not_false, Int.toNat_natCast, dctAt_dK ht1, val_rests, dctAt_dK hk1]
      refine ⟨!((n0 :: ns').map V.int).isEmpty, .inl ⟨_, hS1, rfl⟩, ?_⟩
      simp only [isi_0, isi_1, isi_2, isi_3, isi_4, isi_5, isi_6, isi_7, isi_8, isi_9, isi_10, isi_11, isi_12, isi_13, isi_14, isi_15, isi_16, isi_17, isi_18, isi_19, isi_20, isi_21, isi_22, isi_23, tSeq_at, tNext_at, tBreak_at, tCont_at, tRet_at, tRetN_at, tIfS_at, tAsg_at, tDrop_at, tPar_at, gName_at, gTupF_at, gCons_cons, gNil_nil, tVar_at, tC_at, tOp_at, tUn_at, tIf_at, tAnd_at, tOr_at, tNot_at, onB_bl, tAndV_at, tOrV_at, tNotV_at, tB_at, tTest_at, tIsN_at, tNotN_at, tTruth_at, tCB_at, tCall_at, tCons_at, tNil_at, tTup_at, tLst_at, rI0_at, rI_at, rU_at, rEq_at, rNe_at, rIxF_at, rLenF_at, rInF_at, rTupleF_at, rIsi_at, tDGetF_at, tDGet2F_at, sDPutF_at, dPutK_at, keyV_int, keyV_str, tBM_at, tRng_at, iList_at, iTup_at, onL_at, onT_at, iRng1_at, iZip_at, zipK_at, tSl_at, tNoPart_at, onI_int, tPart_at, rSlLF_at, rSlTF_at, rCatTF_at, tLc_at, tFor_eq, tYes_at, on_some, List.getElem?_cons_zero, List.getElem?_cons_succ, Option.join_some, List.set_cons_zero, List.set_cons_succ, List.nil_append, List.cons_append, List.append_nil, if_true, if_false, Bool.false_eq_true, reduceIte, Bool.not_true, Bool.not_false, Int.toNat_natCast, List.map_cons, List.isEmpty_cons]
      obtain ⟨j, rfl⟩ := Int.eq_ofNat_of_zero_le h0
      have hj : j < (n0 :: ns').length := by have := hat.2; omega
      refine ⟨a, _, _, .int ((n0 :: ns')[j]), rfl, rfl, hS1, atI_nat (by rw [List.getElem?_map, List.getElem?_eq_getElem hj]; rfl), ?_⟩
      simp only [isi_0, isi_1, isi_2, isi_3, isi_4, isi_5, isi_6, isi_7, isi_8, isi_9, isi_10, isi_11, isi_12, isi_13, isi_14, isi_15, isi_16, isi_17, isi_18, isi_19, isi_20, isi_21, isi_22, isi_23, tSeq_at, tNext_at, tBreak_at, tCont_at, tRet_at, tRetN_at, tIfS_at, tAsg_at, tDrop_at, tPar_at, gName_at, gTupF_at, gCons_cons, gNil_nil, tVar_at, tC_at, tOp_at, tUn_at, tIf_at, tAnd_at, tOr_at, tNot_at, onB_bl, tAndV_at, tOrV_at, tNotV_at, tB_at, tTest_at, tIsN_at, tNotN_at, tTruth_at, tCB_at, tCall_at, tCons_at, tNil_at, tTup_at, tLst_at, rI0_at, rI_at, rU_at, rEq_at, rNe_at, rIxF_at, rLenF_at, rInF_at, rTupleF_at, rIsi_at, tDGetF_at, tDGet2F_at, sDPutF_at, dPutK_at, keyV_int, keyV_str, tBM_at, tRng_at, iList_at, iTup_at, onL_at, onT_at, iRng1_at, iZip_at, zipK_at, tSl_at, tNoPart_at, onI_int, tPart_at, rSlLF_at, rSlTF_at, rCatTF_at, tLc_at, tFor_eq, tYes_at, on_some, List.getElem?_cons_zero, List.getElem?_cons_succ, Option.join_some, List.set_cons_zero, List.set_cons_succ, List.nil_append, List.cons_append, List.append_nil, if_true, if_false, Bool.false_eq_true, reduceIte, Bool.not_true, Bool.not_false, Int.toNat_natCast, dctAt_dK hk1]
      obtain ⟨rest, hrest⟩ := rest_int (j : Int) ((n0 :: ns')[j])
      rw [hrest]
      simp only [isi_0, isi_1, isi_2, isi_3, isi_4, isi_5, isi_6, isi_7, isi_8, isi_9, isi_10, isi_11, isi_12, isi_13, isi_14, isi_15, isi_16, isi_17, isi_18, isi_19, isi_20, isi_21, isi_22, isi_23, tSeq_at, tNext_at, tBreak_at, tCont_at, tRet_at, tRetN_at, tIfS_at, tAsg_at, tDrop_at, tPar_at, gName_at, gTupF_at, gCons_cons, gNil_nil, tVar_at, tC_at, tOp_at, tUn_at, tIf_at, tAnd_at, tOr_at, tNot_at, onB_bl, tAndV_at, tOrV_at, tNotV_at, tB_at, tTest_at, tIsN_at, tNotN_at, tTruth_at, tCB_at, tCall_at, tCons_at, tNil_at, tTup_at, tLst_at, rI0_at, rI_at, rU_at, rEq_at, rNe_at, rIxF_at, rLenF_at, rInF_at, rTupleF_at, rIsi_at, tDGetF_at, tDGet2F_at, sDPutF_at, dPutK_at, keyV_int, keyV_str, tBM_at, tRng_at, iList_at, iTup_at, onL_at, onT_at, iRng1_at, iZip_at, zipK_at, tSl_at, tNoPart_at, onI_int, tPart_at, rSlLF_at, rSlTF_at, rCatTF_at, tLc_at, tFor_eq, tYes_at, on_some, List.getElem?_cons_zero, List.getElem?_cons_succ, Option.join_some, List.set_cons_zero, List.set_cons_succ, List.nil_append, List.cons_append, List.append_nil, if_true, if_false, Bool.false_eq_true, reduceIte, Bool.not_true, Bool.not_false, Int.toNat_natCast]
      refine ⟨⟨by decide, by decide, by decide⟩, ?_⟩
      by_cases hb : (10 : Int) ^ Int.toNat 18 ≤ rest
      · simp only [isi_0, isi_1, isi_2, isi_3, isi_4, isi_5, isi_6, isi_7, isi_8, isi_9, isi_10, isi_11, isi_12, isi_13, isi_14, isi_15, isi_16, isi_17, isi_18, isi_19, isi_20, isi_21, isi_22, isi_23, tSeq_at, tNext_at, tBreak_at, tCont_at, tRet_at, tRetN_at, tIfS_at, tAsg_at, tDrop_at, tPar_at, gName_at, gTupF_at, gCons_cons, gNil_nil, tVar_at, tC_at, tOp_at, tUn_at, tIf_at, tAnd_at, tOr_at, tNot_at, onB_bl, tAndV_at, tOrV_at, tNotV_at, tB_at, tTest_at, tIsN_at, tNotN_at, tTruth_at, tCB_at, tCall_at, tCons_at, tNil_at, tTup_at, tLst_at, rI0_at, rI_at, rU_at, rEq_at, rNe_at, rIxF_at, rLenF_at, rInF_at, rTupleF_at, rIsi_at, tDGetF_at, tDGet2F_at, sDPutF_at, dPutK_at, keyV_int, keyV_str, tBM_at, tRng_at, iList_at, iTup_at, onL_at, onT_at, iRng1_at, iZip_at, zipK_at, tSl_at, tNoPart_at, onI_int, tPart_at, rSlLF_at, rSlTF_at, rCatTF_at, tLc_at, tFor_eq, tYes_at, on_some, List.getElem?_cons_zero, List.getElem?_cons_succ, Option.join_some, List.set_cons_zero, List.set_cons_succ, List.nil_append, List.cons_append, List.append_nil, if_true, if_false, Bool.false_eq_true, reduceIte, Bool.not_true, Bool.not_false, Int.toNat_natCast, hb, decide_true, dctAt_dK ht1, val_rests, dctAt_dK hk1]
        exact ⟨⟨hm, by omega⟩, hl64, hm, k _ _ (mod_range _ _ hm).1 (mod_range _ _ hm).2 (fin2 _ _ h0 h1).1 (fin2 _ _ h0 h1).2⟩
      · simp only [isi_0, isi_1, isi_2, isi_3, isi_4, isi_5, isi_6, isi_7, isi_8, isi_9, isi_10, isi_11, isi_12, isi_13, isi_14, isi_15, isi_16, isi_17, isi_18, isi_19, isi_20, isi_21, isi_22, isi_23, tSeq_at, tNext_at, tBreak_at, tCont_at, tRet_at, tRetN_at, tIfS_at, tAsg_at, tDrop_at, tPar_at, gName_at, gTupF_at, gCons_cons, gNil_nil, tVar_at, tC_at, tOp_at, tUn_at, tIf_at, tAnd_at, tOr_at, tNot_at, onB_bl, tAndV_at, tOrV_at, tNotV_at, tB_at, tTest_at, tIsN_at, tNotN_at, tTruth_at, tCB_at, tCall_at, tCons_at, tNil_at, tTup_at, tLst_at, rI0_at, rI_at, rU_at, rEq_at, rNe_at, rIxF_at, rLenF_at, rInF_at, rTupleF_at, rIsi_at, tDGetF_at, tDGet2F_at, sDPutF_at, dPutK_at, keyV_int, keyV_str, tBM_at, tRng_at, iList_at, iTup_at, onL_at, onT_at, iRng1_at, iZip_at, zipK_at, tSl_at, tNoPart_at, onI_int, tPart_at, rSlLF_at, rSlTF_at, rCatTF_at, tLc_at, tFor_eq, tYes_at, on_some, List.getElem?_cons_zero, List.getElem?_cons_succ, Option.join_some, List.set_cons_zero, List.set_cons_succ, List.nil_append, List.cons_append, List.append_nil, if_true, if_false, Bool.false_eq_true, reduceIte, Bool.not_true, Bool.not_false, Int.toNat_natCast, hb, decide_false, dctAt_dK ht1, val_count]
        refine ⟨.inl ⟨by decide, by decide⟩, by decide, ?_⟩
        generalize hx : (rest + 104729 * (c + 1)) % 4294967291 = x
        have x0 : 0 ≤ x ∧ x < 4294967291 := by rw [← hx]; exact mod_range _ _ (by decide)
        refine ⟨⟨by decide, by decide, by omega⟩, by decide, ?_⟩
        generalize hy : x ^ Int.toNat 5 % 4294967279 = y
        have y0 : 0 ≤ y ∧ y < 4294967279 := by rw [← hy]; exact mod_range _ _ (by decide)
        refine ⟨⟨by decide, by decide⟩, .inr ⟨by decide, by decide⟩, by decide, ⟨by decide, by decide⟩, hm, k _ _ (mod_range _ _ hm).1 (mod_range _ _ hm).2 T1 s1⟩
/-! ### _law_begun, _law_is -/
def spBegun : Sp := fun vs H Q _ => vs = [] ∧ ∀ t r H', Town H' t r → Same H H' → H t = none → H r = none → Q (.ref t) H'
theorem sc_law_begun : FnScope [] [] (defScope (top 17)) := ⟨rfl, rfl, rfl, by decide +kernel, rfl, by decide +kernel, by decide +kernel⟩
theorem ok_begun (d : Def K mg "_law_begun" (top 17)) (M : Mods mg) : Cal P w K mg base "_law_begun" 1 [] spBegun := by
  refine d.ok sc_law_begun (fun vs H Q E h => ?_) (fun _ _ _ _ _ _ us hl => match us, hl with | [], _ => rfl) (fun f cdv A outer s H vs Q E hr h => ?_)
  · obtain ⟨rfl, _⟩ := h
    rfl
  · obtain ⟨rfl, k⟩ := h
    apply Exists.intro; apply And.intro
    · (conv => arg 2; whnf)
      with_reducible exact (pss_one (ps_ret (pe_disp (pps_cons pe_str pe_int (pps_cons pe_str pe_dnewK pps_nil)) (by with_unfolding_all rfl) (by with_unfolding_all rfl) (by simp) (by decide))))
    simp only [isi_0, isi_1, isi_2, isi_3, isi_4, isi_5, isi_6, isi_7, isi_8, isi_9, isi_10, isi_11, isi_12, isi_13, isi_14, isi_15, isi_16, isi_17, isi_18, isi_19, isi_20, isi_21, isi_22, isi_23, tSeq_at, tNext_at, tBreak_at, tCont_at, tRet_at, tRetN_at, tIfS_at, tAsg_at, tDrop_at, tPar_at, gName_at, gTupF_at, gCons_cons, gNil_nil, tVar_at, tC_at, tOp_at, tUn_at, tIf_at, tAnd_at, tOr_at, tNot_at, onB_bl, tAndV_at, tOrV_at, tNotV_at, tB_at, tTest_at, tIsN_at, tNotN_at, tTruth_at, tCB_at, tCall_at, tCons_at, tNil_at, tTup_at, tLst_at, rI0_at, rI_at, rU_at, rEq_at, rNe_at, rIxF_at, rLenF_at, rInF_at, rTupleF_at, rIsi_at, tDGetF_at, tDGet2F_at, sDPutF_at, dPutK_at, keyV_int, keyV_str, tBM_at, tRng_at, iList_at, iTup_at, onL_at, onT_at, iRng1_at, iZip_at, zipK_at, tSl_at, tNoPart_at, onI_int, tPart_at, rSlLF_at, rSlTF_at, rCatTF_at, tLc_at, tFor_eq, tYes_at, on_some, List.getElem?_cons_zero, List.getElem?_cons_succ, Option.join_some, List.set_cons_zero, List.set_cons_succ, List.nil_append, List.cons_append, List.append_nil, if_true, if_false, Bool.false_eq_true, reduceIte, Bool.not_true, Bool.not_false, Int.toNat_natCast]
    intro p hp
    simp only [tPairs]
    simp only [isi_0, isi_1, isi_2, isi_3, isi_4, isi_5, isi_6, isi_7, isi_8, isi_9, isi_10, isi_11, isi_12, isi_13, isi_14, isi_15, isi_16, isi_17, isi_18, isi_19, isi_20, isi_21, isi_22, isi_23, tSeq_at, tNext_at, tBreak_at, tCont_at, tRet_at, tRetN_at, tIfS_at, tAsg_at, tDrop_at, tPar_at, gName_at, gTupF_at, gCons_cons, gNil_nil, tVar_at, tC_at, tOp_at, tUn_at, tIf_at, tAnd_at, tOr_at, tNot_at, onB_bl, tAndV_at, tOrV_at, tNotV_at, tB_at, tTest_at, tIsN_at, tNotN_at, tTruth_at, tCB_at, tCall_at, tCons_at, tNil_at, tTup_at, tLst_at, rI0_at, rI_at, rU_at, rEq_at, rNe_at, rIxF_at, rLenF_at, rInF_at, rTupleF_at, rIsi_at, tDGetF_at, tDGet2F_at, sDPutF_at, dPutK_at, keyV_int, keyV_str, tBM_at, tRng_at, iList_at, iTup_at, onL_at, onT_at, iRng1_at, iZip_at, zipK_at, tSl_at, tNoPart_at, onI_int, tPart_at, rSlLF_at, rSlTF_at, rCatTF_at, tLc_at, tFor_eq, tYes_at, on_some, List.getElem?_cons_zero, List.getElem?_cons_succ, Option.join_some, List.set_cons_zero, List.set_cons_succ, List.nil_append, List.cons_append, List.append_nil, if_true, if_false, Bool.false_eq_true, reduceIte, Bool.not_true, Bool.not_false, Int.toNat_natCast]
    intro q hq
    have hqp : q ≠ p := fun e => by subst e; rw [upd_same] at hq; cases hq
    have hq0 : H q = none := by rw [← hq, upd_ne hqp]
    refine ⟨by rw [upd_ne hqp.symm]; exact upd_same, townKvs 0 q, rfl, by show 2 ≤ 15; decide, ?_⟩
    have e : mergeK [] (townKvs 0 q) = townKvs 0 q := by simp [mergeK, townKvs, putK, ncr]
    rw [e]
    refine k p q _ ⟨hqp.symm, ⟨0, upd_same⟩, [], by rw [upd_ne hqp]; exact upd_same, ⟨List.nodup_nil, fun _ h => by simp at h⟩⟩ ?_ hp hq0
    intro b o h
    rw [upd_ne (ne_of_none h hp), upd_ne (ne_of_none h hq0), upd_ne (ne_of_none h hp)]
    exact h
def spIs : Sp := fun vs H Q _ => ∃ a b, vs = [.bl a, .bl b] ∧ Q (.bl (a == b)) H
theorem sc_law_is : FnScope ["_law_told", "_law_due"] ["_law_told", "_law_due"] (defScope (top 18)) := ⟨rfl, rfl, rfl, by decide +kernel, rfl, by decide +kernel, by decide +kernel⟩
theorem ok_is (d : Def K mg "_law_is" (top 18)) (M : Mods mg) : Cal P w K mg base "_law_is" 1 ["_law_told", "_law_due"] spIs := by
  refine d.ok sc_law_is (fun vs H Q E h => ?_) (fun _ _ _ _ _ _ us hl => match us, hl with | [_, _], _ => rfl) (fun f cdv A outer s H vs Q E hr h => ?_)
  · obtain ⟨a, b, rfl, _⟩ := h
    rfl
  · obtain ⟨a, b, rfl, k⟩ := h
    apply Exists.intro; apply And.intro
    · (conv => arg 2; whnf)
      with_reducible exact (pss_one (ps_ret (pe_and (pe_callB call_isi (by with_unfolding_all rfl) M.isinstance boot_isinstance' (pa_cons (pv 0) (pa_cons (pe_bltn (v := .ty "bool") (by with_unfolding_all rfl) M.bool boot_bool' (by with_unfolding_all rfl)) pa_nil))) (pe_one (pe_cmpR op_eq (pv 0) (pv 1) (by with_unfolding_all exact (nomark _)))))))
    have e0 : L2.start ["_law_told", "_law_due"] [.bl a, .bl b] = [some (.bl a), some (.bl b)] := rfl
    rw [e0]
    simp only [isi_0, isi_1, isi_2, isi_3, isi_4, isi_5, isi_6, isi_7, isi_8, isi_9, isi_10, isi_11, isi_12, isi_13, isi_14, isi_15, isi_16, isi_17, isi_18, isi_19, isi_20, isi_21, isi_22, isi_23, tSeq_at, tNext_at, tBreak_at, tCont_at, tRet_at, tRetN_at, tIfS_at, tAsg_at, tDrop_at, tPar_at, gName_at, gTupF_at, gCons_cons, gNil_nil, tVar_at, tC_at, tOp_at, tUn_at, tIf_at, tAnd_at, tOr_at, tNot_at, onB_bl, tAndV_at, tOrV_at, tNotV_at, tB_at, tTest_at, tIsN_at, tNotN_at, tTruth_at, tCB_at, tCall_at, tCons_at, tNil_at, tTup_at, tLst_at, rI0_at, rI_at, rU_at, rEq_at, rNe_at, rIxF_at, rLenF_at, rInF_at, rTupleF_at, rIsi_at, tDGetF_at, tDGet2F_at, sDPutF_at, dPutK_at, keyV_int, keyV_str, tBM_at, tRng_at, iList_at, iTup_at, onL_at, onT_at, iRng1_at, iZip_at, zipK_at, tSl_at, tNoPart_at, onI_int, tPart_at, rSlLF_at, rSlTF_at, rCatTF_at, tLc_at, tFor_eq, tYes_at, on_some, List.getElem?_cons_zero, List.getElem?_cons_succ, Option.join_some, List.set_cons_zero, List.set_cons_succ, List.nil_append, List.cons_append, List.append_nil, if_true, if_false, Bool.false_eq_true, reduceIte, Bool.not_true, Bool.not_false, Int.toNat_natCast, tyN]
    refine ⟨rfl, ?_⟩
    have e : decide (V.bl a = V.bl b) = (a == b) := dec_bl
    rw [e]
    exact k
/-! ### _law_a_stretch -/
def spAStr (K : PySem.W.Frag) : Sp := fun vs H Q _ => ∃ a ns t r, vs = [.ref a, .ref t] ∧ SqL K H a (List.map V.int ns) ∧ ns.length ≤ 63 ∧ Town H t r ∧
  ∀ (x : S) (v : V) (H' : Hp), 0 ≤ x.1 → x.1 ≤ 10 → (∀ e, x.2 = some e → x.1 < e ∧ e ≤ 12) → Rep H' (stD x) v → Town H' t r → SameT H H' → Q v H'
theorem sc_law_a_stretch : FnScope ["_law_script", "_law_town", "_law_first"] ["_law_script", "_law_town"] (defScope (top 20)) := ⟨rfl, rfl, rfl, by decide +kernel, rfl, by decide +kernel, by decide +kernel⟩
theorem ok_astr (d : Def K mg "_law_a_stretch" (top 20)) (M : Mods mg) (c_draw : Cal P w K mg base "_law_draw" 1 ["_law_script", "_law_town", "_law_many"] (spDraw K)) : Cal P w K mg base "_law_a_stretch" 2 ["_law_script", "_law_town"] (spAStr K) := by
  refine d.ok sc_law_a_stretch (fun vs H Q E h => ?_) (fun _ _ _ _ _ _ us hl => match us, hl with | [_, _], _ => rfl) (fun f cdv A outer s H vs Q E hr h => ?_)
  · obtain ⟨a, ns, t, r, rfl, _⟩ := h
    rfl
  · obtain ⟨a, ns, t, r, rfl, hS, hns, T, k⟩ := h
    apply Exists.intro; apply And.intro
    · (conv => arg 2; whnf)
      with_reducible exact (pss_cons (ps_set (i := 2) sc_law_a_stretch.nd (by with_unfolding_all rfl) (by with_unfolding_all exact (Or.inl rfl)) (pe_cal c_draw (hr.mono (by decide)) (pa_cons (pv 0) (pa_cons (pv 1) (pa_cons pe_int pa_nil)))))
      (pss_cons (ps_if (pt_cmpR op_eq (pe_cal c_draw (hr.mono (by decide)) (pa_cons (pv 0) (pa_cons (pv 1) (pa_cons pe_int pa_nil)))) pe_int (by with_unfolding_all exact (nomark _))) (pss_one (ps_ret (pe_tup (pa_cons (pv 2) (pa_cons pe_non pa_nil))))) pss_nil)
      (pss_one (ps_ret (pe_tup (pa_cons (pv 2) (pa_cons (pe_op op_add (pe_op op_add (pv 2) pe_int) (pe_cal c_draw (hr.mono (by decide)) (pa_cons (pv 0) (pa_cons (pv 1) (pa_cons (pe_op op_sub pe_int (pv 2)) pa_nil))))) pa_nil)))))))
    have e0 : L2.start ["_law_script", "_law_town", "_law_first"] [.ref a, .ref t] = [some (.ref a), some (.ref t), none] := rfl
    rw [e0]
    simp only [isi_0, isi_1, isi_2, isi_3, isi_4, isi_5, isi_6, isi_7, isi_8, isi_9, isi_10, isi_11, isi_12, isi_13, isi_14, isi_15, isi_16, isi_17, isi_18, isi_19, isi_20, isi_21, isi_22, isi_23, tSeq_at, tNext_at, tBreak_at, tCont_at, tRet_at, tRetN_at, tIfS_at, tAsg_at, tDrop_at, tPar_at, gName_at, gTupF_at, gCons_cons, gNil_nil, tVar_at, tC_at, tOp_at, tUn_at, tIf_at, tAnd_at, tOr_at, tNot_at, onB_bl, tAndV_at, tOrV_at, tNotV_at, tB_at, tTest_at, tIsN_at, tNotN_at, tTruth_at, tCB_at, tCall_at, tCons_at, tNil_at, tTup_at, tLst_at, rI0_at, rI_at, rU_at, rEq_at, rNe_at, rIxF_at, rLenF_at, rInF_at, rTupleF_at, rIsi_at, tDGetF_at, tDGet2F_at, sDPutF_at, dPutK_at, keyV_int, keyV_str, tBM_at, tRng_at, iList_at, iTup_at, onL_at, onT_at, iRng1_at, iZip_at, zipK_at, tSl_at, tNoPart_at, onI_int, tPart_at, rSlLF_at, rSlTF_at, rCatTF_at, tLc_at, tFor_eq, tYes_at, on_some, List.getElem?_cons_zero, List.getElem?_cons_succ, Option.join_some, List.set_cons_zero, List.set_cons_succ, List.nil_append, List.cons_append, List.append_nil, if_true, if_false, Bool.false_eq_true, reduceIte, Bool.not_true, Bool.not_false, Int.toNat_natCast]
    refine ⟨a, ns, t, r, 11, rfl, hS, hns, T, by decide, by decide, fun x H1 x0 x1 T1 s1 => ?_⟩
    simp only [isi_0, isi_1, isi_2, isi_3, isi_4, isi_5, isi_6, isi_7, isi_8, isi_9, isi_10, isi_11, isi_12, isi_13, isi_14, isi_15, isi_16, isi_17, isi_18, isi_19, isi_20, isi_21, isi_22, isi_23, tSeq_at, tNext_at, tBreak_at, tCont_at, tRet_at, tRetN_at, tIfS_at, tAsg_at, tDrop_at, tPar_at, gName_at, gTupF_at, gCons_cons, gNil_nil, tVar_at, tC_at, tOp_at, tUn_at, tIf_at, tAnd_at, tOr_at, tNot_at, onB_bl, tAndV_at, tOrV_at, tNotV_at, tB_at, tTest_at, tIsN_at, tNotN_at, tTruth_at, tCB_at, tCall_at, tCons_at, tNil_at, tTup_at, tLst_at, rI0_at, rI_at, rU_at, rEq_at, rNe_at, rIxF_at, rLenF_at, rInF_at, rTupleF_at, rIsi_at, tDGetF_at, tDGet2F_at, sDPutF_at, dPutK_at, keyV_int, keyV_str, tBM_at, tRng_at, iList_at, iTup_at, onL_at, onT_at, iRng1_at, iZip_at, zipK_at, tSl_at, tNoPart_at, onI_int, tPart_at, rSlLF_at, rSlTF_at, rCatTF_at, tLc_at, tFor_eq, tYes_at, on_some, List.getElem?_cons_zero, List.getElem?_cons_succ, Option.join_some, List.set_cons_zero, List.set_cons_succ, List.nil_append, List.cons_append, List.append_nil, if_true, if_false, Bool.false_eq_true, reduceIte, Bool.not_true, Bool.not_false, Int.toNat_natCast]
    refine ⟨a, ns, t, r, 6, rfl, s1.sq hS, hns, T1, by decide, by decide, fun y H2 y0 y1 T2 s2 => ?_⟩
    simp only [isi_0, isi_1, isi_2, isi_3, isi_4, isi_5, isi_6, isi_7, isi_8, isi_9, isi_10, isi_11, isi_12, isi_13, isi_14, isi_15, isi_16, isi_17, isi_18, isi_19, isi_20, isi_21, isi_22, isi_23, tSeq_at, tNext_at, tBreak_at, tCont_at, tRet_at, tRetN_at, tIfS_at, tAsg_at, tDrop_at, tPar_at, gName_at, gTupF_at, gCons_cons, gNil_nil, tVar_at, tC_at, tOp_at, tUn_at, tIf_at, tAnd_at, tOr_at, tNot_at, onB_bl, tAndV_at, tOrV_at, tNotV_at, tB_at, tTest_at, tIsN_at, tNotN_at, tTruth_at, tCB_at, tCall_at, tCons_at, tNil_at, tTup_at, tLst_at, rI0_at, rI_at, rU_at, rEq_at, rNe_at, rIxF_at, rLenF_at, rInF_at, rTupleF_at, rIsi_at, tDGetF_at, tDGet2F_at, sDPutF_at, dPutK_at, keyV_int, keyV_str, tBM_at, tRng_at, iList_at, iTup_at, onL_at, onT_at, iRng1_at, iZip_at, zipK_at, tSl_at, tNoPart_at, onI_int, tPart_at, rSlLF_at, rSlTF_at, rCatTF_at, tLc_at, tFor_eq, tYes_at, on_some, List.getElem?_cons_zero, List.getElem?_cons_succ, Option.join_some, List.set_cons_zero, List.set_cons_succ, List.nil_append, List.cons_append, List.append_nil, if_true, if_false, Bool.false_eq_true, reduceIte, Bool.not_true, Bool.not_false, Int.toNat_natCast]
    refine ⟨rfl, ?_⟩
    have s12 := s1.trans s2
    by_cases hy : V.int y = V.int 0
    · simp only [isi_0, isi_1, isi_2, isi_3, isi_4, isi_5, isi_6, isi_7, isi_8, isi_9, isi_10, isi_11, isi_12, isi_13, isi_14, isi_15, isi_16, isi_17, isi_18, isi_19, isi_20, isi_21, isi_22, isi_23, tSeq_at, tNext_at, tBreak_at, tCont_at, tRet_at, tRetN_at, tIfS_at, tAsg_at, tDrop_at, tPar_at, gName_at, gTupF_at, gCons_cons, gNil_nil, tVar_at, tC_at, tOp_at, tUn_at, tIf_at, tAnd_at, tOr_at, tNot_at, onB_bl, tAndV_at, tOrV_at, tNotV_at, tB_at, tTest_at, tIsN_at, tNotN_at, tTruth_at, tCB_at, tCall_at, tCons_at, tNil_at, tTup_at, tLst_at, rI0_at, rI_at, rU_at, rEq_at, rNe_at, rIxF_at, rLenF_at, rInF_at, rTupleF_at, rIsi_at, tDGetF_at, tDGet2F_at, sDPutF_at, dPutK_at, keyV_int, keyV_str, tBM_at, tRng_at, iList_at, iTup_at, onL_at, onT_at, iRng1_at, iZip_at, zipK_at, tSl_at, tNoPart_at, onI_int, tPart_at, rSlLF_at, rSlTF_at, rCatTF_at, tLc_at, tFor_eq, tYes_at, on_some, List.getElem?_cons_zero, List.getElem?_cons_succ, Option.join_some, List.set_cons_zero, List.set_cons_succ, List.nil_append, List.cons_append, List.append_nil, if_true, if_false, Bool.false_eq_true, reduceIte, Bool.not_true, Bool.not_false, Int.toNat_natCast, hy, decide_true]
      refine ⟨by show 2 ≤ sizeLine; decide, fun p hp => ?_⟩
      have sp := same_upd (o := .tup [V.int x, V.non]) hp
      exact k (x, none) _ _ x0 (by show x ≤ 10; omega) (fun e h => by cases h) (Rep.tup upd_same (.cons .int (.cons .non .nil))) (T2.mono sp) (s12.trans (SameT.of sp))
    · simp only [isi_0, isi_1, isi_2, isi_3, isi_4, isi_5, isi_6, isi_7, isi_8, isi_9, isi_10, isi_11, isi_12, isi_13, isi_14, isi_15, isi_16, isi_17, isi_18, isi_19, isi_20, isi_21, isi_22, isi_23, tSeq_at, tNext_at, tBreak_at, tCont_at, tRet_at, tRetN_at, tIfS_at, tAsg_at, tDrop_at, tPar_at, gName_at, gTupF_at, gCons_cons, gNil_nil, tVar_at, tC_at, tOp_at, tUn_at, tIf_at, tAnd_at, tOr_at, tNot_at, onB_bl, tAndV_at, tOrV_at, tNotV_at, tB_at, tTest_at, tIsN_at, tNotN_at, tTruth_at, tCB_at, tCall_at, tCons_at, tNil_at, tTup_at, tLst_at, rI0_at, rI_at, rU_at, rEq_at, rNe_at, rIxF_at, rLenF_at, rInF_at, rTupleF_at, rIsi_at, tDGetF_at, tDGet2F_at, sDPutF_at, dPutK_at, keyV_int, keyV_str, tBM_at, tRng_at, iList_at, iTup_at, onL_at, onT_at, iRng1_at, iZip_at, zipK_at, tSl_at, tNoPart_at, onI_int, tPart_at, rSlLF_at, rSlTF_at, rCatTF_at, tLc_at, tFor_eq, tYes_at, on_some, List.getElem?_cons_zero, List.getElem?_cons_succ, Option.join_some, List.set_cons_zero, List.set_cons_succ, List.nil_append, List.cons_append, List.append_nil, if_true, if_false, Bool.false_eq_true, reduceIte, Bool.not_true, Bool.not_false, Int.toNat_natCast, hy, decide_false]
      refine ⟨a, ns, t, r, 12 - x, rfl, s12.sq hS, hns, T2, by omega, by omega, fun z H3 z0 z1 T3 s3 => ?_⟩
      simp only [isi_0, isi_1, isi_2, isi_3, isi_4, isi_5, isi_6, isi_7, isi_8, isi_9, isi_10, isi_11, isi_12, isi_13, isi_14, isi_15, isi_16, isi_17, isi_18, isi_19, isi_20, isi_21, isi_22, isi_23, tSeq_at, tNext_at, tBreak_at, tCont_at, tRet_at, tRetN_at, tIfS_at, tAsg_at, tDrop_at, tPar_at, gName_at, gTupF_at, gCons_cons, gNil_nil, tVar_at, tC_at, tOp_at, tUn_at, tIf_at, tAnd_at, tOr_at, tNot_at, onB_bl, tAndV_at, tOrV_at, tNotV_at, tB_at, tTest_at, tIsN_at, tNotN_at, tTruth_at, tCB_at, tCall_at, tCons_at, tNil_at, tTup_at, tLst_at, rI0_at, rI_at, rU_at, rEq_at, rNe_at, rIxF_at, rLenF_at, rInF_at, rTupleF_at, rIsi_at, tDGetF_at, tDGet2F_at, sDPutF_at, dPutK_at, keyV_int, keyV_str, tBM_at, tRng_at, iList_at, iTup_at, onL_at, onT_at, iRng1_at, iZip_at, zipK_at, tSl_at, tNoPart_at, onI_int, tPart_at, rSlLF_at, rSlTF_at, rCatTF_at, tLc_at, tFor_eq, tYes_at, on_some, List.getElem?_cons_zero, List.getElem?_cons_succ, Option.join_some, List.set_cons_zero, List.set_cons_succ, List.nil_append, List.cons_append, List.append_nil, if_true, if_false, Bool.false_eq_true, reduceIte, Bool.not_true, Bool.not_false, Int.toNat_natCast]
      refine ⟨by show 2 ≤ sizeLine; decide, fun p hp => ?_⟩
      have sp := same_upd (o := .tup [V.int x, V.int (x + 1 + z)]) hp
      exact k (x, some (x + 1 + z)) _ _ x0 (by show x ≤ 10; omega) (fun e h => by cases h; show x < x + 1 + z ∧ x + 1 + z ≤ 12; omega) (Rep.tup upd_same (.cons .int (.cons .int .nil))) (T3.mono sp) ((s12.trans s3).trans (SameT.of sp))
/-! ### _law_cover -/
def topEnd (x : S) : Int := match x.2 with
  | none => 13
  | some e => e
/-- the cells of a stretch -/
def cover (x : S) : List Int := (List.range (topEnd x - x.1).toNat).map fun k => x.1 + (k : Nat)
def spCover : Sp := fun vs H Q _ => ∃ (x : S) (v : V), vs = [v] ∧ Rep H (stD x) v ∧ 0 ≤ x.1 ∧ x.1 ≤ 1000 ∧ 0 ≤ topEnd x ∧ topEnd x ≤ 1000 ∧ ∀ v' H', Rep H' (.lst ((cover x).map D.int)) v' → Same H H' → Q v' H'
theorem sc_law_cover : FnScope ["_law_stretch"] ["_law_stretch"] (defScope (top 19)) := ⟨rfl, rfl, rfl, by decide +kernel, rfl, by decide +kernel, by decide +kernel⟩
theorem ok_cover (d : Def K mg "_law_cover" (top 19)) (M : Mods mg) : Cal P w K mg base "_law_cover" 1 ["_law_stretch"] spCover := by
  refine d.ok sc_law_cover (fun vs H Q E h => ?_) (fun _ _ _ _ _ _ us hl => match us, hl with | [_], _ => rfl) (fun f cdv A outer s H vs Q E hr h => ?_)
  · obtain ⟨x, v, rfl, _⟩ := h
    rfl
  · obtain ⟨⟨fx, ex⟩, v, rfl, hx, f0, f1, t0, t1, k⟩ := h
    apply Exists.intro; apply And.intro
    · (conv => arg 2; whnf)
      with_reducible exact (pss_one (ps_ret (pe_callTy (call_list_rng (by with_unfolding_all rfl)) (by with_unfolding_all rfl) M.list boot_list' (pa_cons (pe_range2 (by with_unfolding_all rfl) M.range (pa_cons (pe_ix ix_F (pv 0) pe_int (by with_unfolding_all exact (fun _ _ => rfl))) (pa_cons (pe_ifExp (pt_cmp (pc_isN (pe_ix ix_F (pv 0) pe_int (by with_unfolding_all exact (fun _ _ => rfl))))) pe_int (pe_ix ix_F (pv 0) pe_int (by with_unfolding_all exact (fun _ _ => rfl)))) pa_nil))) pa_nil))))
    have e0 : L2.start ["_law_stretch"] [v] = [some v] := rfl
    rw [e0]
    obtain ⟨a, vs, rfl, ha, rv⟩ := hx.tup_of
    obtain ⟨v1, _, rfl, g1, rv⟩ := rv.uncons
    obtain ⟨v2, _, rfl, g2, rv⟩ := rv.uncons
    have := rv.unnil; subst this
    have := g1.int_of; subst this
    have := Rep.end_of g2; subst this
    have i0 : atI [V.int fx, endV ex] 0 = some (V.int fx) := rfl
    have i1 : atI [V.int fx, endV ex] 1 = some (endV ex) := rfl
    simp only [isi_0, isi_1, isi_2, isi_3, isi_4, isi_5, isi_6, isi_7, isi_8, isi_9, isi_10, isi_11, isi_12, isi_13, isi_14, isi_15, isi_16, isi_17, isi_18, isi_19, isi_20, isi_21, isi_22, isi_23, tSeq_at, tNext_at, tBreak_at, tCont_at, tRet_at, tRetN_at, tIfS_at, tAsg_at, tDrop_at, tPar_at, gName_at, gTupF_at, gCons_cons, gNil_nil, tVar_at, tC_at, tOp_at, tUn_at, tIf_at, tAnd_at, tOr_at, tNot_at, onB_bl, tAndV_at, tOrV_at, tNotV_at, tB_at, tTest_at, tIsN_at, tNotN_at, tTruth_at, tCB_at, tCall_at, tCons_at, tNil_at, tTup_at, tLst_at, rI0_at, rI_at, rU_at, rEq_at, rNe_at, rIxF_at, rLenF_at, rInF_at, rTupleF_at, rIsi_at, tDGetF_at, tDGet2F_at, sDPutF_at, dPutK_at, keyV_int, keyV_str, tBM_at, tRng_at, iList_at, iTup_at, onL_at, onT_at, iRng1_at, iZip_at, zipK_at, tSl_at, tNoPart_at, onI_int, tPart_at, rSlLF_at, rSlTF_at, rCatTF_at, tLc_at, tFor_eq, tYes_at, on_some, List.getElem?_cons_zero, List.getElem?_cons_succ, Option.join_some, List.set_cons_zero, List.set_cons_succ, List.nil_append, List.cons_append, List.append_nil, if_true, if_false, Bool.false_eq_true, reduceIte, Bool.not_true, Bool.not_false, Int.toNat_natCast, seqAt_tup ha, i0, i1]
    have hfin : ∀ hi : Int, topEnd (fx, ex) = hi → ∀ p, H p = none → rListRng [V.ref p] (upd H p (.rng fx hi)) Q := fun hi e p hp => by
      rw [rListRng_of upd_same]
      subst e
      refine ⟨by show -1000000 ≤ fx; omega, by show fx ≤ 1000000; omega, by omega, by omega, fun l hl => ?_⟩
      have s2 : Same H (upd (upd H p (.rng fx (topEnd (fx, ex)))) l (.lst (rngV fx (topEnd (fx, ex))))) := (same_upd hp).trans (same_upd hl)
      refine k _ _ (Rep.lst upd_same ?_) s2
      have e : rngV fx (topEnd (fx, ex)) = (cover (fx, ex)).map V.int := by simp [rngV, cover, List.map_map]
      rw [e]
      exact Reps.ints _
    cases ex with
    | none =>
      simp only [isi_0, isi_1, isi_2, isi_3, isi_4, isi_5, isi_6, isi_7, isi_8, isi_9, isi_10, isi_11, isi_12, isi_13, isi_14, isi_15, isi_16, isi_17, isi_18, isi_19, isi_20, isi_21, isi_22, isi_23, tSeq_at, tNext_at, tBreak_at, tCont_at, tRet_at, tRetN_at, tIfS_at, tAsg_at, tDrop_at, tPar_at, gName_at, gTupF_at, gCons_cons, gNil_nil, tVar_at, tC_at, tOp_at, tUn_at, tIf_at, tAnd_at, tOr_at, tNot_at, onB_bl, tAndV_at, tOrV_at, tNotV_at, tB_at, tTest_at, tIsN_at, tNotN_at, tTruth_at, tCB_at, tCall_at, tCons_at, tNil_at, tTup_at, tLst_at, rI0_at, rI_at, rU_at, rEq_at, rNe_at, rIxF_at, rLenF_at, rInF_at, rTupleF_at, rIsi_at, tDGetF_at, tDGet2F_at, sDPutF_at, dPutK_at, keyV_int, keyV_str, tBM_at, tRng_at, iList_at, iTup_at, onL_at, onT_at, iRng1_at, iZip_at, zipK_at, tSl_at, tNoPart_at, onI_int, tPart_at, rSlLF_at, rSlTF_at, rCatTF_at, tLc_at, tFor_eq, tYes_at, on_some, List.getElem?_cons_zero, List.getElem?_cons_succ, Option.join_some, List.set_cons_zero, List.set_cons_succ, List.nil_append, List.cons_append, List.append_nil, if_true, if_false, Bool.false_eq_true, reduceIte, Bool.not_true, Bool.not_false, Int.toNat_natCast, endV, decide_true]
      exact hfin 13 rfl
    | some e =>
      have hn : ¬ (V.int e = V.non) := fun h => by cases h
      simp only [isi_0, isi_1, isi_2, isi_3, isi_4, isi_5, isi_6, isi_7, isi_8, isi_9, isi_10, isi_11, isi_12, isi_13, isi_14, isi_15, isi_16, isi_17, isi_18, isi_19, isi_20, isi_21, isi_22, isi_23, tSeq_at, tNext_at, tBreak_at, tCont_at, tRet_at, tRetN_at, tIfS_at, tAsg_at, tDrop_at, tPar_at, gName_at, gTupF_at, gCons_cons, gNil_nil, tVar_at, tC_at, tOp_at, tUn_at, tIf_at, tAnd_at, tOr_at, tNot_at, onB_bl, tAndV_at, tOrV_at, tNotV_at, tB_at, tTest_at, tIsN_at, tNotN_at, tTruth_at, tCB_at, tCall_at, tCons_at, tNil_at, tTup_at, tLst_at, rI0_at, rI_at, rU_at, rEq_at, rNe_at, rIxF_at, rLenF_at, rInF_at, rTupleF_at, rIsi_at, tDGetF_at, tDGet2F_at, sDPutF_at, dPutK_at, keyV_int, keyV_str, tBM_at, tRng_at, iList_at, iTup_at, onL_at, onT_at, iRng1_at, iZip_at, zipK_at, tSl_at, tNoPart_at, onI_int, tPart_at, rSlLF_at, rSlTF_at, rCatTF_at, tLc_at, tFor_eq, tYes_at, on_some, List.getElem?_cons_zero, List.getElem?_cons_succ, Option.join_some, List.set_cons_zero, List.set_cons_succ, List.nil_append, List.cons_append, List.append_nil, if_true, if_false, Bool.false_eq_true, reduceIte, Bool.not_true, Bool.not_false, Int.toNat_natCast, endV, hn, decide_false]
      exact hfin e rfl
end
end K2

namespace K2
open PySem L2
/-! ### runs of cells -/
def runEnd (m : Int → Bool) : Nat → Int → Int
  | 0, e => e
  | n + 1, e => if m e then runEnd m n (e + 1) else e
def toEnd (e : Int) : Option Int := if e = 13 then none else some e
def runAt (m : Int → Bool) (k : Nat) : Option S := if m (k : Int) && !m ((k : Int) - 1) then some ((k : Int), toEnd (runEnd m 13 (k : Int))) else none
def runsF (m : Int → Bool) : List S := (List.range 13).filterMap (runAt m)
theorem runEnd_le (m : Int → Bool) : ∀ n e, e ≤ runEnd m n e
  | 0, e => Int.le_refl _
  | n + 1, e => by
    unfold runEnd
    split
    · have := runEnd_le m n (e + 1); omega
    · exact Int.le_refl _
theorem runEnd_in (m : Int → Bool) : ∀ n e j, e ≤ j → j < runEnd m n e → m j = true
  | 0, e, j, h1, h2 => by simp [runEnd] at h2; omega
  | n + 1, e, j, h1, h2 => by
    unfold runEnd at h2
    split at h2
    · by_cases h : j = e
      · subst h; assumption
      · exact runEnd_in m n (e + 1) j (by omega) h2
    · omega
theorem runEnd_pos (m : Int → Bool) (n : Nat) (e : Int) (h : m e = true) : e < runEnd m (n + 1) e := by
  unfold runEnd
  rw [if_pos h]
  have := runEnd_le m n (e + 1)
  omega
theorem runAt_some {m : Int → Bool} {k : Nat} {x : S} (h : runAt m k = some x) : m (k : Int) = true ∧ m ((k : Int) - 1) = false ∧ x = ((k : Int), toEnd (runEnd m 13 (k : Int))) := by
  unfold runAt at h
  split at h
  · rename_i hc
    simp at hc
    cases h
    exact ⟨hc.1, hc.2, rfl⟩
  · cases h
theorem runs_ok {m : Int → Bool} {x : S} (h : x ∈ runsF m) : stOk x = true := by
  obtain ⟨k, hk, e⟩ := List.mem_filterMap.mp h
  obtain ⟨h1, h2, rfl⟩ := runAt_some e
  have := runEnd_pos m 12 _ h1
  unfold toEnd
  split
  · simp [stOk]
  · simp [stOk]
    exact this
theorem runs_apart {m : Int → Bool} : (runsF m).Pairwise fun a b => reach a.2 b.1 = false := by
  unfold runsF
  rw [List.pairwise_filterMap]
  have hr : (List.range 13).Pairwise (· < ·) := List.pairwise_lt_range
  refine hr.imp_of_mem fun {a b} ha hb hab x hx y hy => ?_
  obtain ⟨h1, h2, rfl⟩ := runAt_some hx
  obtain ⟨h3, h4, rfl⟩ := runAt_some hy
  have hb' := List.mem_range.mp hb
  have hlt : runEnd m 13 (a : Int) < (b : Int) := by
    by_cases q : runEnd m 13 (a : Int) < (b : Int)
    · exact q
    · have := runEnd_in m 13 (a : Int) ((b : Int) - 1) (by omega) (by omega)
      rw [this] at h4; cases h4
  unfold toEnd
  rw [if_neg (by omega)]
  unfold reach
  simp
  exact hlt
theorem gaps_of_pairwise : ∀ {l : List S}, l.Pairwise (fun a b => reach a.2 b.1 = false) → gapsS l = true
  | [], _ => rfl
  | [_], _ => rfl
  | a :: b :: r, h => by
    have h1 := List.pairwise_cons.mp h
    have := h1.1 b List.mem_cons_self
    simp [gapsS, this]
    exact gaps_of_pairwise h1.2
theorem map_toS (l : List S) : (l.map stD).map toS = l := by
  rw [List.map_map]
  have : (toS ∘ stD) = id := by funext x; exact toS_stD x
  rw [this]; simp
theorem isLot_runs (m : Int → Bool) : isLotD (.tup ((runsF m).map stD)) = true := by
  show (((runsF m).map stD).all isStD && gapsS (((runsF m).map stD).map toS)) = true
  rw [map_toS, gaps_of_pairwise runs_apart, Bool.and_true, List.all_map, List.all_eq_true]
  intro x hx
  simp only [Function.comp_apply, isSt_stD]
  exact runs_ok hx
theorem runs_len (m : Int → Bool) : (runsF m).length ≤ 13 := by
  have := List.length_filterMap_le (runAt m) (List.range 13)
  simpa [runsF] using this
theorem runs_take (m : Int → Bool) (i : Nat) (h : i < 13) : (List.range (i + 1)).filterMap (runAt m) = (List.range i).filterMap (runAt m) ++ (runAt m i).toList := by
  rw [List.range_succ, List.filterMap_append]
  cases e : runAt m i <;> simp [e]
theorem inV_ints (c : Int) (cs : List Int) : inV (.int c) (cs.map V.int) = cs.contains c := by
  unfold inV
  rw [List.any_map]
  induction cs with
  | nil => rfl
  | cons x xs ih =>
    rw [List.any_cons, ih, List.contains_cons]
    congr 1
    show (x == c) = (c == x)
    rw [Bool.eq_iff_iff, beq_iff_eq, beq_iff_eq]
    exact ⟨fun h => h.symm, fun h => h.symm⟩
theorem flat_ints (cs : List Int) : (cs.map V.int).all flatV = true := by
  rw [List.all_map, List.all_eq_true]
  intro x _
  rfl
/-! ### stretches stay where tuples stay -/
def SameU (H H' : Hp) : Prop := ∀ b vs, H b = some (.tup vs) → H' b = some (.tup vs)
theorem Rep.st_mono {H H' : Hp} (k : SameU H H') {x : S} {v : V} (h : Rep H (stD x) v) : Rep H' (stD x) v := by
  obtain ⟨a, vs, rfl, ha, rv⟩ := h.tup_of
  obtain ⟨v1, _, rfl, g1, rv⟩ := rv.uncons
  obtain ⟨v2, _, rfl, g2, rv⟩ := rv.uncons
  have := rv.unnil; subst this
  have := g1.int_of; subst this
  have := Rep.end_of g2; subst this
  exact Rep.tup (k _ _ ha) (.cons .int (.cons (rep_end _) .nil))
theorem Reps.st_mono {H H' : Hp} (k : SameU H H') : ∀ {l : List S} {vs : List V}, Reps H (l.map stD) vs → Reps H' (l.map stD) vs
  | [], vs, h => by rw [h.unnil]; exact Reps.nil
  | x :: l, vs, h => by
    obtain ⟨v, r, rfl, h1, h2⟩ := Reps.uncons (d := stD x) (ds := l.map stD) h
    exact Reps.cons (Rep.st_mono k h1) (Reps.st_mono k h2)
section
variable {P : Program} {w : World} {K : PySem.W.Frag} {mg : Str → Option Value} {base : Heap}
/-! ### _law_runs -/
def spRuns : Sp := fun vs H Q _ => ∃ v cs, vs = [v] ∧ Rep H (.lst (List.map D.int cs)) v ∧ (∀ c ∈ cs, 0 ≤ c ∧ c ≤ 12) ∧ ∀ v' H', Rep H' (.lst ((runsF cs.contains).map stD)) v' → Same H H' → Q v' H'
theorem sc_law_runs : FnScope ["_law_cells", "_law_found", "_law_cell", "_law_end"] ["_law_cells"] (defScope (top 21)) := ⟨rfl, rfl, rfl, by decide +kernel, rfl, by decide +kernel, by decide +kernel⟩
theorem ok_runs (d : Def K mg "_law_runs" (top 21)) (M : Mods mg) : Cal P w K mg base "_law_runs" 1 ["_law_cells"] spRuns := by
  refine d.ok sc_law_runs (fun vs H Q E h => ?_) (fun _ _ _ _ _ _ us hl => match us, hl with | [_], _ => rfl) (fun f cdv A outer s H vs Q E hr h => ?_)
  · obtain ⟨v, cs, rfl, _⟩ := h
    rfl
  · obtain ⟨v, cs, rfl, hv, hcs, k⟩ := h
    apply Exists.intro; apply And.intro
    · (conv => arg 2; whnf)
      with_reducible exact (pss_cons (ps_set (i := 1) sc_law_runs.nd (by with_unfolding_all rfl) (by with_unfolding_all exact (Or.inl rfl)) (pe_lst pa_nil))
      (pss_cons (ps_for PassesOwn.never (by with_unfolding_all rfl) (pi_range1 (by with_unfolding_all rfl) M.range (pa_cons pe_int pa_nil)) (pg_name (i := 2) sc_law_runs.nd (by with_unfolding_all rfl) (by with_unfolding_all exact (Or.inl rfl))) (pss_one (ps_if (PW.pt (pw_and (pt_cmpR op_inF (pv 2) (pv 0) (by with_unfolding_all rfl)) (pw_and1 (pt_cmpR op_notInF (pe_op op_sub (pv 2) pe_int) (pv 0) (by with_unfolding_all rfl))))) (pss_cons (ps_set (i := 3) sc_law_runs.nd (by with_unfolding_all rfl) (by with_unfolding_all exact (Or.inl rfl)) (pv 2))
      (pss_cons (ps_while PassesOwn.never (pt_cmpR op_inF (pv 3) (pv 0) (by with_unfolding_all rfl)) (pss_one (ps_set (i := 3) sc_law_runs.nd (by with_unfolding_all rfl) (by with_unfolding_all exact (Or.inl rfl)) (pe_op op_add (pv 3) pe_int))))
      (pss_one (ps_expr (pe_bm PySem.F.plainAttrs_list PySem.F.slot_list_append PySem.F.type_list_append (by with_unfolding_all exact mt_appendF) (pv 1) (pa_cons (pe_tup (pa_cons (pv 2) (pa_cons (pe_ifExp (pt_cmpR op_eq (pv 3) pe_int (by with_unfolding_all exact (nomark _))) pe_non (pv 3)) pa_nil))) pa_nil)))))) pss_nil)))
      (pss_one (ps_ret (pv 1)))))
    have e0 : L2.start ["_law_cells", "_law_found", "_law_cell", "_law_end"] [v] = [some v, none, none, none] := rfl
    rw [e0]
    obtain ⟨a, vs, rfl, ha, hrp⟩ := hv.lst_of
    have := hrp.ints_of; subst this
    simp only [tSeq_at, tNext_at, tRet_at, tIfS_at, tAsg_at, tDrop_at, tPar_at, gName_at, gTupF_at, gCons_cons, gNil_nil, tVar_at, tC_at, tOp_at, tUn_at, tIf_at, tAnd_at, tOr_at, tNot_at, onB_bl, tAndV_at, tOrV_at, tB_at, tTest_at, tIsN_at, tNotN_at, tTruth_at, tCB_at, tCall_at, tCons_at, tNil_at, tTup_at, tLst_at, rI0_at, rI_at, rU_at, rEq_at, rNe_at, rIxF_at, rLenF_at, rInF_at, rTupleF_at, rIsi_at, tBM_at, iList_at, iTup_at, onL_at, onT_at, iRng1_at, rCatTF_at, tLc_at, tFor_eq, tYes_at, on_some, List.getElem?_cons_zero, List.getElem?_cons_succ, Option.join_some, List.set_cons_zero, List.set_cons_succ, List.nil_append, List.cons_append, List.append_nil, if_true, if_false, Bool.false_eq_true, reduceIte, Bool.not_true, Bool.not_false, Int.toNat_natCast]
    refine ⟨by decide, fun l hl => ?_⟩
    have hal : a ≠ l := ne_of_none ha hl
    have inC : ∀ c : Int, inV (.int c) (cs.map V.int) = cs.contains c := fun c => inV_ints c cs
    have fl := flat_ints cs
    refine ⟨by decide, by decide, for_range' (lo := 0) (n := 13) (fun i σ H2 => (∃ c e, σ = [some (.ref a), some (.ref l), c, e]) ∧ Same H H2 ∧ ∃ ys, H2 l = some (.lst ys) ∧ Reps H2 (((List.range i).filterMap (runAt cs.contains)).map stD) ys) ?_ ?_ ?_⟩
    · exact ⟨⟨_, _, rfl⟩, same_upd hl, [], upd_same, Reps.nil⟩
    · rintro i σ H2 hi ⟨⟨c0, e0, rfl⟩, s2, ys, hy, rys⟩
      have ha2 := s2 _ _ ha
      have hlen : ys.length ≤ 13 := by
        rw [rys.length, List.length_map]
        exact Nat.le_trans (List.length_filterMap_le _ _) (by simp; omega)
      have stay : runAt cs.contains i = none → ((∃ c e, [some (V.ref a), some (V.ref l), some (V.int (0 + (i : Int))), e0] = [some (.ref a), some (.ref l), c, e]) ∧ Same H H2 ∧ ∃ ys, H2 l = some (.lst ys) ∧ Reps H2 (((List.range (i + 1)).filterMap (runAt cs.contains)).map stD) ys) := fun hn =>
        ⟨⟨_, _, rfl⟩, s2, ys, hy, by rw [runs_take _ _ hi, hn]; simpa using rys⟩
      simp only [tSeq_at, tNext_at, tRet_at, tIfS_at, tAsg_at, tDrop_at, tPar_at, gName_at, gTupF_at, gCons_cons, gNil_nil, tVar_at, tC_at, tOp_at, tUn_at, tIf_at, tAnd_at, tOr_at, tNot_at, onB_bl, tAndV_at, tOrV_at, tB_at, tTest_at, tIsN_at, tNotN_at, tTruth_at, tCB_at, tCall_at, tCons_at, tNil_at, tTup_at, tLst_at, rI0_at, rI_at, rU_at, rEq_at, rNe_at, rIxF_at, rLenF_at, rInF_at, rTupleF_at, rIsi_at, tBM_at, iList_at, iTup_at, onL_at, onT_at, iRng1_at, rCatTF_at, tLc_at, tFor_eq, tYes_at, on_some, List.getElem?_cons_zero, List.getElem?_cons_succ, Option.join_some, List.set_cons_zero, List.set_cons_succ, List.nil_append, List.cons_append, List.append_nil, if_true, if_false, Bool.false_eq_true, reduceIte, Bool.not_true, Bool.not_false, Int.toNat_natCast, seqAt_lst ha2, inC, flatV, fl, Int.zero_add]
      rw [Int.zero_add] at stay
      refine ⟨trivial, trivial, ?_⟩
      cases h1 : cs.contains (i : Int) with
      | false =>
        simp only [tSeq_at, tNext_at, tRet_at, tIfS_at, tAsg_at, tDrop_at, tPar_at, gName_at, gTupF_at, gCons_cons, gNil_nil, tVar_at, tC_at, tOp_at, tUn_at, tIf_at, tAnd_at, tOr_at, tNot_at, onB_bl, tAndV_at, tOrV_at, tB_at, tTest_at, tIsN_at, tNotN_at, tTruth_at, tCB_at, tCall_at, tCons_at, tNil_at, tTup_at, tLst_at, rI0_at, rI_at, rU_at, rEq_at, rNe_at, rIxF_at, rLenF_at, rInF_at, rTupleF_at, rIsi_at, tBM_at, iList_at, iTup_at, onL_at, onT_at, iRng1_at, rCatTF_at, tLc_at, tFor_eq, tYes_at, on_some, List.getElem?_cons_zero, List.getElem?_cons_succ, Option.join_some, List.set_cons_zero, List.set_cons_succ, List.nil_append, List.cons_append, List.append_nil, if_true, if_false, Bool.false_eq_true, reduceIte, Bool.not_true, Bool.not_false, Int.toNat_natCast]
        exact stay (by unfold runAt; rw [h1]; rfl)
      | true =>
        simp only [tSeq_at, tNext_at, tRet_at, tIfS_at, tAsg_at, tDrop_at, tPar_at, gName_at, gTupF_at, gCons_cons, gNil_nil, tVar_at, tC_at, tOp_at, tUn_at, tIf_at, tAnd_at, tOr_at, tNot_at, onB_bl, tAndV_at, tOrV_at, tB_at, tTest_at, tIsN_at, tNotN_at, tTruth_at, tCB_at, tCall_at, tCons_at, tNil_at, tTup_at, tLst_at, rI0_at, rI_at, rU_at, rEq_at, rNe_at, rIxF_at, rLenF_at, rInF_at, rTupleF_at, rIsi_at, tBM_at, iList_at, iTup_at, onL_at, onT_at, iRng1_at, rCatTF_at, tLc_at, tFor_eq, tYes_at, on_some, List.getElem?_cons_zero, List.getElem?_cons_succ, Option.join_some, List.set_cons_zero, List.set_cons_succ, List.nil_append, List.cons_append, List.append_nil, if_true, if_false, Bool.false_eq_true, reduceIte, Bool.not_true, Bool.not_false, Int.toNat_natCast, seqAt_lst ha2, inC, flatV, fl]
        refine ⟨trivial, trivial, ?_⟩
        cases h2 : cs.contains ((i : Int) - 1) with
        | true =>
          simp only [tSeq_at, tNext_at, tRet_at, tIfS_at, tAsg_at, tDrop_at, tPar_at, gName_at, gTupF_at, gCons_cons, gNil_nil, tVar_at, tC_at, tOp_at, tUn_at, tIf_at, tAnd_at, tOr_at, tNot_at, onB_bl, tAndV_at, tOrV_at, tB_at, tTest_at, tIsN_at, tNotN_at, tTruth_at, tCB_at, tCall_at, tCons_at, tNil_at, tTup_at, tLst_at, rI0_at, rI_at, rU_at, rEq_at, rNe_at, rIxF_at, rLenF_at, rInF_at, rTupleF_at, rIsi_at, tBM_at, iList_at, iTup_at, onL_at, onT_at, iRng1_at, rCatTF_at, tLc_at, tFor_eq, tYes_at, on_some, List.getElem?_cons_zero, List.getElem?_cons_succ, Option.join_some, List.set_cons_zero, List.set_cons_succ, List.nil_append, List.cons_append, List.append_nil, if_true, if_false, Bool.false_eq_true, reduceIte, Bool.not_true, Bool.not_false, Int.toNat_natCast]
          exact stay (by unfold runAt; rw [h1, h2]; rfl)
        | false =>
          simp only [tSeq_at, tNext_at, tRet_at, tIfS_at, tAsg_at, tDrop_at, tPar_at, gName_at, gTupF_at, gCons_cons, gNil_nil, tVar_at, tC_at, tOp_at, tUn_at, tIf_at, tAnd_at, tOr_at, tNot_at, onB_bl, tAndV_at, tOrV_at, tB_at, tTest_at, tIsN_at, tNotN_at, tTruth_at, tCB_at, tCall_at, tCons_at, tNil_at, tTup_at, tLst_at, rI0_at, rI_at, rU_at, rEq_at, rNe_at, rIxF_at, rLenF_at, rInF_at, rTupleF_at, rIsi_at, tBM_at, iList_at, iTup_at, onL_at, onT_at, iRng1_at, rCatTF_at, tLc_at, tFor_eq, tYes_at, on_some, List.getElem?_cons_zero, List.getElem?_cons_succ, Option.join_some, List.set_cons_zero, List.set_cons_succ, List.nil_append, List.cons_append, List.append_nil, if_true, if_false, Bool.false_eq_true, reduceIte, Bool.not_true, Bool.not_false, Int.toNat_natCast]
          -- while end in cells
          refine ⟨fun m σ H' => H' = H2 ∧ ∃ (n : Nat) (e : Int), σ = [some (.ref a), some (.ref l), some (.int (i : Int)), some (.int e)] ∧ e = (i : Int) + n ∧ n ≤ 13 ∧ m = 13 - n ∧ runEnd cs.contains (13 - n) e = runEnd cs.contains 13 (i : Int), ⟨13, rfl, 0, _, rfl, by simp, by decide, rfl, rfl⟩, ?_⟩
          rintro m σ H' ⟨rfl, n, e, rfl, he, hn, rfl, hre⟩
          simp only [tSeq_at, tNext_at, tRet_at, tIfS_at, tAsg_at, tDrop_at, tPar_at, gName_at, gTupF_at, gCons_cons, gNil_nil, tVar_at, tC_at, tOp_at, tUn_at, tIf_at, tAnd_at, tOr_at, tNot_at, onB_bl, tAndV_at, tOrV_at, tB_at, tTest_at, tIsN_at, tNotN_at, tTruth_at, tCB_at, tCall_at, tCons_at, tNil_at, tTup_at, tLst_at, rI0_at, rI_at, rU_at, rEq_at, rNe_at, rIxF_at, rLenF_at, rInF_at, rTupleF_at, rIsi_at, tBM_at, iList_at, iTup_at, onL_at, onT_at, iRng1_at, rCatTF_at, tLc_at, tFor_eq, tYes_at, on_some, List.getElem?_cons_zero, List.getElem?_cons_succ, Option.join_some, List.set_cons_zero, List.set_cons_succ, List.nil_append, List.cons_append, List.append_nil, if_true, if_false, Bool.false_eq_true, reduceIte, Bool.not_true, Bool.not_false, Int.toNat_natCast, seqAt_lst ha2, inC, flatV, fl]
          refine ⟨trivial, trivial, ?_⟩
          cases h3 : cs.contains e with
          | true =>
            have hmem := hcs e (by simpa using h3)
            simp only [tSeq_at, tNext_at, tRet_at, tIfS_at, tAsg_at, tDrop_at, tPar_at, gName_at, gTupF_at, gCons_cons, gNil_nil, tVar_at, tC_at, tOp_at, tUn_at, tIf_at, tAnd_at, tOr_at, tNot_at, onB_bl, tAndV_at, tOrV_at, tB_at, tTest_at, tIsN_at, tNotN_at, tTruth_at, tCB_at, tCall_at, tCons_at, tNil_at, tTup_at, tLst_at, rI0_at, rI_at, rU_at, rEq_at, rNe_at, rIxF_at, rLenF_at, rInF_at, rTupleF_at, rIsi_at, tBM_at, iList_at, iTup_at, onL_at, onT_at, iRng1_at, rCatTF_at, tLc_at, tFor_eq, tYes_at, on_some, List.getElem?_cons_zero, List.getElem?_cons_succ, Option.join_some, List.set_cons_zero, List.set_cons_succ, List.nil_append, List.cons_append, List.append_nil, if_true, if_false, Bool.false_eq_true, reduceIte, Bool.not_true, Bool.not_false, Int.toNat_natCast]
            refine ⟨fun σ' H3 => H3 = H' ∧ σ' = [some (.ref a), some (.ref l), some (.int (i : Int)), some (.int (e + 1))], fun σ' H3 q => ⟨13 - (n + 1), by omega, q.1, n + 1, e + 1, q.2, by omega, by omega, rfl, ?_⟩, rfl, rfl⟩
            rw [← hre]
            have e13 : 13 - n = (13 - (n + 1)) + 1 := by omega
            rw [e13]
            conv => rhs; unfold runEnd
            rw [if_pos h3]
          | false =>
            have hee : e = runEnd cs.contains 13 (i : Int) := by
              rw [← hre]
              cases 13 - n with
              | zero => rfl
              | succ q => unfold runEnd; rw [if_neg (by rw [h3]; decide)]
            have hrun : runAt cs.contains i = some ((i : Int), toEnd e) := by
              unfold runAt
              rw [h1, h2, hee]; rfl
            simp only [tSeq_at, tNext_at, tRet_at, tIfS_at, tAsg_at, tDrop_at, tPar_at, gName_at, gTupF_at, gCons_cons, gNil_nil, tVar_at, tC_at, tOp_at, tUn_at, tIf_at, tAnd_at, tOr_at, tNot_at, onB_bl, tAndV_at, tOrV_at, tB_at, tTest_at, tIsN_at, tNotN_at, tTruth_at, tCB_at, tCall_at, tCons_at, tNil_at, tTup_at, tLst_at, rI0_at, rI_at, rU_at, rEq_at, rNe_at, rIxF_at, rLenF_at, rInF_at, rTupleF_at, rIsi_at, tBM_at, iList_at, iTup_at, onL_at, onT_at, iRng1_at, rCatTF_at, tLc_at, tFor_eq, tYes_at, on_some, List.getElem?_cons_zero, List.getElem?_cons_succ, Option.join_some, List.set_cons_zero, List.set_cons_succ, List.nil_append, List.cons_append, List.append_nil, if_true, if_false, Bool.false_eq_true, reduceIte, Bool.not_true, Bool.not_false, Int.toNat_natCast]
            refine ⟨.inl ⟨rfl, _, SqL.of hy⟩, rfl, ?_⟩
            have fin : ∀ ev : V, ev = endV (toEnd e) → [V.int (i : Int), ev].length ≤ sizeLine ∧ ∀ p, H' p = none → rAppendF (V.ref l) [V.ref p] (upd H' p (.tup [V.int (i : Int), ev])) fun _ H1 =>
                (∃ c e', [some (V.ref a), some (V.ref l), some (V.int (i : Int)), some (V.int e)] = [some (V.ref a), some (V.ref l), c, e']) ∧ Same H H1 ∧ ∃ ys, H1 l = some (HO.lst ys) ∧ Reps H1 (((List.range (i + 1)).filterMap (runAt cs.contains)).map stD) ys := fun ev hev => by
              subst hev
              refine ⟨by show 2 ≤ sizeLine; decide, fun p hp => ?_⟩
              have np : l ≠ p := ne_of_none hy hp
              have hy' : (upd H' p (.tup [V.int (i : Int), endV (toEnd e)])) l = some (.lst ys) := by rw [upd_ne np]; exact hy
              rw [rAppendF_of hy']
              refine ⟨small1000 (by omega), ⟨_, _, rfl⟩, fun b o hb => ?_, _, upd_same, ?_⟩
              · have nb : b ≠ l := ne_of_none hb hl
                have nbp : b ≠ p := ne_of_none (s2 b o hb) hp
                rw [upd_ne nb, upd_ne nbp]; exact s2 b o hb
              · rw [runs_take _ _ hi, hrun, List.map_append]
                have sm : SameU H' (upd (upd H' p (.tup [V.int (i : Int), endV (toEnd e)])) l (.lst (ys ++ [V.ref p]))) := fun b vs h => by
                  have nb : b ≠ l := fun q => by subst q; rw [hy] at h; cases h
                  rw [upd_ne nb, upd_ne (ne_of_none h hp)]; exact h
                exact Reps.snoc (Reps.st_mono sm rys) (Rep.tup (by rw [upd_ne np.symm]; exact upd_same) (.cons .int (.cons (rep_end _) .nil)))
            by_cases h13 : V.int e = V.int 13
            · have e13 : e = 13 := by injection h13
              simp only [tSeq_at, tNext_at, tRet_at, tIfS_at, tAsg_at, tDrop_at, tPar_at, gName_at, gTupF_at, gCons_cons, gNil_nil, tVar_at, tC_at, tOp_at, tUn_at, tIf_at, tAnd_at, tOr_at, tNot_at, onB_bl, tAndV_at, tOrV_at, tB_at, tTest_at, tIsN_at, tNotN_at, tTruth_at, tCB_at, tCall_at, tCons_at, tNil_at, tTup_at, tLst_at, rI0_at, rI_at, rU_at, rEq_at, rNe_at, rIxF_at, rLenF_at, rInF_at, rTupleF_at, rIsi_at, tBM_at, iList_at, iTup_at, onL_at, onT_at, iRng1_at, rCatTF_at, tLc_at, tFor_eq, tYes_at, on_some, List.getElem?_cons_zero, List.getElem?_cons_succ, Option.join_some, List.set_cons_zero, List.set_cons_succ, List.nil_append, List.cons_append, List.append_nil, if_true, if_false, Bool.false_eq_true, reduceIte, Bool.not_true, Bool.not_false, Int.toNat_natCast, h13, decide_true]
              have q := fin V.non (by rw [e13]; rfl)
              rw [e13] at q
              exact q
            · have e13 : ¬ e = 13 := fun q => h13 (by rw [q])
              simp only [tSeq_at, tNext_at, tRet_at, tIfS_at, tAsg_at, tDrop_at, tPar_at, gName_at, gTupF_at, gCons_cons, gNil_nil, tVar_at, tC_at, tOp_at, tUn_at, tIf_at, tAnd_at, tOr_at, tNot_at, onB_bl, tAndV_at, tOrV_at, tB_at, tTest_at, tIsN_at, tNotN_at, tTruth_at, tCB_at, tCall_at, tCons_at, tNil_at, tTup_at, tLst_at, rI0_at, rI_at, rU_at, rEq_at, rNe_at, rIxF_at, rLenF_at, rInF_at, rTupleF_at, rIsi_at, tBM_at, iList_at, iTup_at, onL_at, onT_at, iRng1_at, rCatTF_at, tLc_at, tFor_eq, tYes_at, on_some, List.getElem?_cons_zero, List.getElem?_cons_succ, Option.join_some, List.set_cons_zero, List.set_cons_succ, List.nil_append, List.cons_append, List.append_nil, if_true, if_false, Bool.false_eq_true, reduceIte, Bool.not_true, Bool.not_false, Int.toNat_natCast, h13, decide_false]
              exact fin (V.int e) (by unfold toEnd; rw [if_neg e13]; rfl)
    · rintro σ H2 ⟨⟨c0, e0, rfl⟩, s2, ys, hy, rys⟩
      simp only [tSeq_at, tNext_at, tRet_at, tIfS_at, tAsg_at, tDrop_at, tPar_at, gName_at, gTupF_at, gCons_cons, gNil_nil, tVar_at, tC_at, tOp_at, tUn_at, tIf_at, tAnd_at, tOr_at, tNot_at, onB_bl, tAndV_at, tOrV_at, tB_at, tTest_at, tIsN_at, tNotN_at, tTruth_at, tCB_at, tCall_at, tCons_at, tNil_at, tTup_at, tLst_at, rI0_at, rI_at, rU_at, rEq_at, rNe_at, rIxF_at, rLenF_at, rInF_at, rTupleF_at, rIsi_at, tBM_at, iList_at, iTup_at, onL_at, onT_at, iRng1_at, rCatTF_at, tLc_at, tFor_eq, tYes_at, on_some, List.getElem?_cons_zero, List.getElem?_cons_succ, Option.join_some, List.set_cons_zero, List.set_cons_succ, List.nil_append, List.cons_append, List.append_nil, if_true, if_false, Bool.false_eq_true, reduceIte, Bool.not_true, Bool.not_false, Int.toNat_natCast]
      exact k _ _ (Rep.lst hy rys) s2
end
end K2

namespace K2
open PySem L2
/-! ### cells of stretches -/
def inS (x : S) (c : Int) : Bool := decide (x.1 ≤ c) && (match x.2 with
  | none => true
  | some e => decide (c < e))
def memL (l : List S) (c : Int) : Bool := l.any fun x => inS x c
theorem inS_iff {x : S} {c : Int} : inS x c = true ↔ x.1 ≤ c ∧ ∀ e, x.2 = some e → c < e := by
  obtain ⟨f, e⟩ := x
  cases e <;> simp [inS]
theorem memL_iff {l : List S} {c : Int} : memL l c = true ↔ ∃ x ∈ l, inS x c = true := by simp [memL]
theorem stOk_iff {x : S} : stOk x = true ↔ 0 ≤ x.1 ∧ ∀ e, x.2 = some e → x.1 < e := by
  obtain ⟨f, e⟩ := x
  cases e <;> simp [stOk]
theorem reach_no {e : Option Int} {c : Int} : reach e c = false ↔ ∃ k, e = some k ∧ k < c := by
  cases e <;> simp [reach]
theorem inS_fst {x : S} (h : stOk x = true) : inS x x.1 = true := inS_iff.mpr ⟨Int.le_refl _, (stOk_iff.mp h).2⟩
/-- a lot -/
structure Lot (l : List S) : Prop where
  ok : ∀ x ∈ l, stOk x = true
  gap : l.Pairwise fun a b => reach a.2 b.1 = false
theorem Lot.tail {x : S} {l : List S} (h : Lot (x :: l)) : Lot l := ⟨fun y hy => h.ok y (List.mem_cons_of_mem _ hy), (List.pairwise_cons.mp h.gap).2⟩
theorem Lot.nil : Lot [] := ⟨fun _ h => by simp at h, .nil⟩
/-- what is behind the first stretch lies behind its end -/
theorem Lot.behind {x : S} {l : List S} (h : Lot (x :: l)) {c : Int} (m : memL l c = true) : ∃ k, x.2 = some k ∧ k < c := by
  obtain ⟨y, hy, hc⟩ := memL_iff.mp m
  obtain ⟨k, e, lt⟩ := reach_no.mp ((List.pairwise_cons.mp h.gap).1 y hy)
  exact ⟨k, e, by have := (inS_iff.mp hc).1; omega⟩
theorem Lot.from {x : S} {l : List S} (h : Lot (x :: l)) {c : Int} (m : memL (x :: l) c = true) : x.1 ≤ c := by
  obtain ⟨y, hy, hc⟩ := memL_iff.mp m
  rcases List.mem_cons.mp hy with rfl | hy
  · exact (inS_iff.mp hc).1
  · obtain ⟨k, e, lt⟩ := h.behind (memL_iff.mpr ⟨y, hy, hc⟩)
    have := (stOk_iff.mp (h.ok x List.mem_cons_self)).2 k e
    omega
theorem memL_cons {x : S} {l : List S} {c : Int} : memL (x :: l) c = (inS x c || memL l c) := by simp [memL]
theorem memL_append {a b : List S} {c : Int} : memL (a ++ b) c = (memL a c || memL b c) := by simp [memL]
theorem Lot.nonneg {l : List S} (h : Lot l) {c : Int} (m : memL l c = true) : 0 ≤ c := by
  obtain ⟨y, hy, hc⟩ := memL_iff.mp m
  have := (stOk_iff.mp (h.ok y hy)).1
  have := (inS_iff.mp hc).1
  omega
/-- the end of the first stretch is no cell -/
theorem Lot.stop {x : S} {l : List S} (h : Lot (x :: l)) {k : Int} (e : x.2 = some k) : memL (x :: l) k = false := by
  cases q : memL (x :: l) k with
  | false => rfl
  | true =>
    rw [memL_cons, Bool.or_eq_true] at q
    rcases q with q | q
    · have := (inS_iff.mp q).2 k e; omega
    · obtain ⟨k', e', lt⟩ := h.behind q
      rw [e] at e'; cases e'; omega
theorem Lot.uniq : ∀ {l m : List S}, Lot l → Lot m → (∀ c, memL l c = memL m c) → l = m
  | [], [], _, _, _ => rfl
  | [], y :: m, _, hm, e => by
    have := e y.1
    rw [memL_cons, inS_fst (hm.ok y List.mem_cons_self)] at this
    simp [memL] at this
  | x :: l, [], hl, _, e => by
    have := e x.1
    rw [memL_cons, inS_fst (hl.ok x List.mem_cons_self)] at this
    simp [memL] at this
  | x :: l, y :: m, hl, hm, e => by
    have mx : memL (x :: l) x.1 = true := by rw [memL_cons, inS_fst (hl.ok x List.mem_cons_self)]; rfl
    have my : memL (y :: m) y.1 = true := by rw [memL_cons, inS_fst (hm.ok y List.mem_cons_self)]; rfl
    have f1 := hm.from ((e _).symm.trans mx)
    have f2 := hl.from ((e _).trans my)
    have ef : x.1 = y.1 := by omega
    have half : ∀ {a b : S} {p q : List S}, Lot (a :: p) → Lot (b :: q) → (∀ c, memL (a :: p) c = memL (b :: q) c) → a.1 = b.1 → ∀ k, a.2 = some k → ∃ j, b.2 = some j ∧ j ≤ k := fun {a b p q} ha hb e ef k ek => by
      have no := ha.stop ek
      rw [e, memL_cons, Bool.or_eq_false_iff] at no
      have lt := (stOk_iff.mp (ha.ok a List.mem_cons_self)).2 k ek
      cases eb : b.2 with
      | none =>
        have : inS b k = true := inS_iff.mpr ⟨by omega, fun e h => by rw [eb] at h; cases h⟩
        rw [this] at no; simp at no
      | some j =>
        refine ⟨j, rfl, ?_⟩
        by_cases z : j ≤ k
        · exact z
        · have : inS b k = true := inS_iff.mpr ⟨by omega, fun e h => by rw [eb] at h; cases h; omega⟩
          rw [this] at no; simp at no
    have ee : x.2 = y.2 := by
      cases ex : x.2 with
      | none =>
        cases ey : y.2 with
        | none => rfl
        | some j =>
          obtain ⟨k, ek, _⟩ := half hm hl (fun c => (e c).symm) ef.symm j ey
          rw [ex] at ek; cases ek
      | some k =>
        obtain ⟨j, ej, l1⟩ := half hl hm e ef k ex
        obtain ⟨k', ek', l2⟩ := half hm hl (fun c => (e c).symm) ef.symm j ej
        rw [ex] at ek'; cases ek'
        rw [ej]; congr 1; omega
    have exy : x = y := Prod.ext ef ee
    subst exy
    have sub : ∀ {p q : List S}, Lot (x :: p) → Lot (x :: q) → (∀ c, memL (x :: p) c = memL (x :: q) c) → ∀ c, memL p c = true → memL q c = true := fun {p q} hp hq e c h => by
      obtain ⟨k, ek, lt⟩ := hp.behind h
      have := e c
      rw [memL_cons, memL_cons, h, Bool.or_true] at this
      have no : inS x c = false := by
        cases z : inS x c with
        | false => rfl
        | true => have := (inS_iff.mp z).2 k ek; omega
      rw [no, Bool.false_or] at this
      exact this.symm
    rw [Lot.uniq hl.tail hm.tail fun c => ?_]
    rw [Bool.eq_iff_iff]
    exact ⟨sub hl hm e c, sub hm hl (fun c => (e c).symm) c⟩
/-! ### runs of cells are the lot of the cells -/
theorem runEnd_top (m : Int → Bool) (hm : ∀ c, 13 ≤ c → m c = false) : ∀ n e, e ≤ 13 → runEnd m n e ≤ 13
  | 0, e, h => h
  | n + 1, e, h => by
    unfold runEnd
    split
    · rename_i q
      refine runEnd_top m hm n (e + 1) ?_
      by_cases z : e = 13
      · rw [hm e (by omega)] at q; cases q
      · omega
    · exact h
theorem runEnd_ge (m : Int → Bool) : ∀ (n : Nat) (e c : Int), e ≤ c → c < e + n → (∀ j, e ≤ j → j ≤ c → m j = true) → c < runEnd m n e
  | 0, e, c, h1, h2, _ => by omega
  | n + 1, e, c, h1, h2, h => by
    unfold runEnd
    rw [if_pos (h e (Int.le_refl _) h1)]
    by_cases z : c = e
    · have := runEnd_le m n (e + 1); omega
    · exact runEnd_ge m n (e + 1) c (by omega) (by omega) fun j a b => h j (by omega) b
theorem run_start (m : Int → Bool) (hm : ∀ c, c < 0 → m c = false) : ∀ (n : Nat), m (n : Int) = true → ∃ k : Nat, k ≤ n ∧ m ((k : Int) - 1) = false ∧ ∀ j : Int, (k : Int) ≤ j → j ≤ n → m j = true
  | 0, h => ⟨0, Nat.le_refl _, hm _ (by omega), fun j a b => by
      have z : j = ((0 : Nat) : Int) := by omega
      rw [z]; exact h⟩
  | n + 1, h => by
    cases q : m (n : Int) with
    | false =>
      refine ⟨n + 1, Nat.le_refl _, ?_, fun j a b => ?_⟩
      · rw [show ((n + 1 : Nat) : Int) - 1 = n by omega]; exact q
      · have z : j = ((n + 1 : Nat) : Int) := by omega
        rw [z]; exact h
    | true =>
      obtain ⟨k, a, b, c⟩ := run_start m hm n q
      refine ⟨k, by omega, b, fun j l1 l2 => ?_⟩
      by_cases z : j ≤ n
      · exact c j l1 z
      · have : j = ((n + 1 : Nat) : Int) := by omega
        rw [this]; exact h
def capM (m : Int → Bool) (c : Int) : Bool := if 13 ≤ c then m 12 else m c
theorem runs_mem {m : Int → Bool} (h0 : ∀ c, c < 0 → m c = false) (h1 : ∀ c, 13 ≤ c → m c = false) (c : Int) : memL (runsF m) c = capM m c := by
  rw [Bool.eq_iff_iff]
  constructor
  · intro h
    obtain ⟨x, hx, hc⟩ := memL_iff.mp h
    obtain ⟨k, hk, e⟩ := List.mem_filterMap.mp hx
    obtain ⟨a, b, rfl⟩ := runAt_some e
    obtain ⟨l1, l2⟩ := inS_iff.mp hc
    have l1' : (k : Int) ≤ c := l1
    have hk' := List.mem_range.mp hk
    have tp := runEnd_top m h1 13 (k : Int) (by omega)
    have ge := runEnd_le m 13 (k : Int)
    unfold capM
    by_cases z : runEnd m 13 (k : Int) = 13
    · split
      · exact runEnd_in m 13 (k : Int) 12 (by omega) (by omega)
      · exact runEnd_in m 13 (k : Int) c l1' (by omega)
    · have := l2 (runEnd m 13 (k : Int)) (by show toEnd _ = _; unfold toEnd; rw [if_neg z])
      rw [if_neg (by omega)]
      exact runEnd_in m 13 (k : Int) c l1' this
  · intro h
    have go : ∀ d : Int, d ≤ 12 → m d = true → (c = d ∨ (13 ≤ c ∧ d = 12)) → memL (runsF m) c = true := fun d hd md hc => by
      have d0 : 0 ≤ d := by
        by_cases z : 0 ≤ d
        · exact z
        · rw [h0 d (by omega)] at md; cases md
      obtain ⟨n, rfl⟩ : ∃ n : Nat, d = n := ⟨d.toNat, by omega⟩
      obtain ⟨k, kn, b, all⟩ := run_start m h0 n md
      have ek : runAt m k = some ((k : Int), toEnd (runEnd m 13 (k : Int))) := by
        unfold runAt
        rw [all k (Int.le_refl _) (by omega), b]; rfl
      refine memL_iff.mpr ⟨_, List.mem_filterMap.mpr ⟨k, List.mem_range.mpr (by omega), ek⟩, inS_iff.mpr ⟨by show (k : Int) ≤ c; omega, fun e he => ?_⟩⟩
      have lt := runEnd_ge m 13 (k : Int) n (by omega) (by omega) all
      have he' : toEnd (runEnd m 13 (k : Int)) = some e := he
      unfold toEnd at he'
      split at he'
      · cases he'
      · cases he'
        have tp := runEnd_top m h1 13 (k : Int) (by omega)
        omega
    unfold capM at h
    split at h
    · exact go 12 (by omega) h (.inr ⟨by omega, rfl⟩)
    · exact go c (by omega) h (.inl rfl)
theorem runs_lot (m : Int → Bool) : Lot (runsF m) := ⟨fun _ h => runs_ok h, runs_apart⟩
/-- THE RULE: a lot with these cells is the runs of them -/
theorem canon {l : List S} {m : Int → Bool} (hl : Lot l) (h0 : ∀ c, c < 0 → m c = false) (h1 : ∀ c, 13 ≤ c → m c = false) (e : ∀ c, memL l c = capM m c) : l = runsF m :=
  hl.uniq (runs_lot m) fun c => by rw [e, runs_mem h0 h1]
theorem isLot_lot {l : List S} (h : Lot l) : isLotD (.tup (l.map stD)) = true := by
  show ((l.map stD).all isStD && gapsS ((l.map stD).map toS)) = true
  rw [map_toS, gaps_of_pairwise h.gap, Bool.and_true, List.all_map, List.all_eq_true]
  intro x hx
  simp only [Function.comp_apply, isSt_stD]
  exact h.ok x hx
end K2

namespace K2
open PySem L2
/-! ### ends -/
def later : Option Int → Option Int → Option Int
  | some a, some b => some (if b > a then b else a)
  | _, _ => none
def earlier : Option Int → Option Int → Option Int
  | none, b => b
  | a, none => a
  | some a, some b => some (if b < a then b else a)
def maxI (a b : Int) : Int := if b > a then b else a
def meetsF (x y : S) : Bool := match earlier x.2 y.2 with
  | none => true
  | some e => decide (maxI x.1 y.1 < e)
theorem earlier_in {a b : Option Int} {c : Int} : (∀ e, earlier a b = some e → c < e) ↔ (∀ e, a = some e → c < e) ∧ ∀ e, b = some e → c < e := by
  cases a with
  | none => cases b <;> simp [earlier]
  | some a =>
    cases b with
    | none => simp [earlier]
    | some b =>
      simp [earlier]
      split <;> omega
theorem later_in {a b : Option Int} {c : Int} : (∀ e, later a b = some e → c < e) ↔ (∀ e, a = some e → c < e) ∨ ∀ e, b = some e → c < e := by
  cases a with
  | none => simp [later]
  | some a =>
    cases b with
    | none => simp [later]
    | some b =>
      simp [later]
      split <;> omega
/-- the cells that both have -/
theorem both_in {x y : S} {c : Int} : inS (maxI x.1 y.1, earlier x.2 y.2) c = (inS x c && inS y c) := by
  rw [Bool.eq_iff_iff, Bool.and_eq_true, inS_iff, inS_iff, inS_iff, earlier_in]
  show (maxI x.1 y.1 ≤ c ∧ _) ↔ _
  have : maxI x.1 y.1 ≤ c ↔ x.1 ≤ c ∧ y.1 ≤ c := by unfold maxI; split <;> omega
  rw [this]
  exact ⟨fun ⟨⟨a, b⟩, c, d⟩ => ⟨⟨a, c⟩, b, d⟩, fun ⟨⟨a, c⟩, b, d⟩ => ⟨⟨a, b⟩, c, d⟩⟩
theorem meets_ok {x y : S} (hx : stOk x = true) (h : meetsF x y = true) : stOk (maxI x.1 y.1, earlier x.2 y.2) = true := by
  rw [stOk_iff]
  have := (stOk_iff.mp hx).1
  refine ⟨by show 0 ≤ maxI x.1 y.1; unfold maxI; split <;> omega, fun e he => ?_⟩
  have he' : earlier x.2 y.2 = some e := he
  unfold meetsF at h
  rw [he'] at h
  simpa using h
theorem meets_no {x y : S} (h : meetsF x y = false) (c : Int) : (inS x c && inS y c) = false := by
  rw [← both_in]
  cases q : inS (maxI x.1 y.1, earlier x.2 y.2) c with
  | false => rfl
  | true =>
    obtain ⟨a, b⟩ := inS_iff.mp q
    unfold meetsF at h
    cases e : earlier x.2 y.2 with
    | none => rw [e] at h; cases h
    | some k =>
      rw [e] at h
      have := b k e
      simp at h
      have a' : maxI x.1 y.1 ≤ c := a
      omega
theorem meets_yes {x y : S} (hx : stOk x = true) (hy : stOk y = true) (h : meetsF x y = true) : inS x (maxI x.1 y.1) = true ∧ inS y (maxI x.1 y.1) = true := by
  have := inS_fst (meets_ok (y := y) hx h)
  rw [both_in, Bool.and_eq_true] at this
  exact this
/-! ### one stretch more -/
/-- the last row is lengthened, or one is added -/
def ins (rows : List S) (x : S) : List S := match rows.getLast? with
  | some r => if reach r.2 x.1 then rows.dropLast ++ [(r.1, later r.2 x.2)] else rows ++ [x]
  | none => [x]
theorem ins_lot {rows : List S} {x : S} (h : Lot rows) (hx : stOk x = true) (hs : ∀ r ∈ rows, r.1 ≤ x.1) :
    Lot (ins rows x) ∧ (∀ c, memL (ins rows x) c = (memL rows c || inS x c)) ∧ ∀ r ∈ ins rows x, r.1 ≤ x.1 := by
  unfold ins
  rcases List.eq_nil_or_concat rows with rfl | ⟨init, r, rfl⟩
  · refine ⟨⟨fun y hy => ?_, by simp⟩, fun c => by simp [memL], fun y hy => ?_⟩
    · simp at hy; rw [hy]; exact hx
    · simp at hy; rw [hy]; exact Int.le_refl _
  · rw [List.concat_eq_append] at h hs ⊢
    rw [List.getLast?_append]
    simp only [List.getLast?_singleton, Option.some_or, List.dropLast_concat]
    have hr : r ∈ init ++ [r] := by simp
    have okr := h.ok r hr
    have fr := hs r hr
    have gi := List.pairwise_append.mp h.gap
    split
    · rename_i re
      refine ⟨⟨fun y hy => ?_, ?_⟩, fun c => ?_, fun y hy => ?_⟩
      · rcases List.mem_append.mp hy with hy | hy
        · exact h.ok y (List.mem_append_left _ hy)
        · simp at hy; rw [hy]
          refine stOk_iff.mpr ⟨(stOk_iff.mp okr).1, fun e he => ?_⟩
          have := (stOk_iff.mp okr).2
          have h2 := (later_in (a := r.2) (b := x.2) (c := r.1)).mpr (.inl this)
          exact h2 e he
      · rw [List.pairwise_append]
        refine ⟨gi.1, by simp, fun a ha b hb => ?_⟩
        simp at hb; rw [hb]
        exact gi.2.2 a ha r (by simp)
      · rw [memL_append, memL_append, Bool.or_assoc]
        congr 1
        rw [memL_cons, memL_cons]
        simp only [memL, List.any_nil, Bool.or_false]
        rw [Bool.eq_iff_iff, Bool.or_eq_true, inS_iff, inS_iff, inS_iff]
        show (r.1 ≤ c ∧ ∀ e, later r.2 x.2 = some e → c < e) ↔ _
        rw [later_in]
        constructor
        · rintro ⟨a, b | b⟩
          · exact .inl ⟨a, b⟩
          · by_cases z : x.1 ≤ c
            · exact .inr ⟨z, b⟩
            · left
              refine ⟨a, fun e he => ?_⟩
              rw [he] at re
              have : x.1 ≤ e := by simpa [reach] using re
              omega
        · rintro (⟨a, b⟩ | ⟨a, b⟩)
          · exact ⟨a, .inl b⟩
          · exact ⟨by omega, .inr b⟩
      · rcases List.mem_append.mp hy with hy | hy
        · exact hs y (List.mem_append_left _ hy)
        · simp at hy; rw [hy]; exact fr
    · rename_i re
      have re' : reach r.2 x.1 = false := by simpa using re
      refine ⟨⟨fun y hy => ?_, ?_⟩, fun c => ?_, fun y hy => ?_⟩
      · rcases List.mem_append.mp hy with hy | hy
        · exact h.ok y hy
        · simp at hy; rw [hy]; exact hx
      · rw [List.pairwise_append]
        refine ⟨h.gap, by simp, fun a ha b hb => ?_⟩
        simp at hb; rw [hb]
        rcases List.mem_append.mp ha with ha | ha
        · obtain ⟨k, e, lt⟩ := reach_no.mp (gi.2.2 a ha r (by simp))
          exact reach_no.mpr ⟨k, e, by omega⟩
        · simp at ha; rw [ha]; exact re'
      · rw [memL_append (b := [x])]; simp [memL]
      · rcases List.mem_append.mp hy with hy | hy
        · exact hs y hy
        · simp at hy; rw [hy]; exact Int.le_refl _
theorem fold_ins : ∀ {ys : List S} {rows : List S}, Lot rows → (∀ y ∈ ys, stOk y = true) → ys.Pairwise (fun a b => a.1 ≤ b.1) → (∀ r ∈ rows, ∀ y ∈ ys, r.1 ≤ y.1) →
    Lot (ys.foldl ins rows) ∧ ∀ c, memL (ys.foldl ins rows) c = (memL rows c || memL ys c)
  | [], rows, h, _, _, _ => ⟨h, fun c => by simp [memL]⟩
  | y :: ys, rows, h, ok, pw, fr => by
    have pc := List.pairwise_cons.mp pw
    obtain ⟨a, b, c⟩ := ins_lot h (ok y List.mem_cons_self) fun r hr => fr r hr y List.mem_cons_self
    obtain ⟨d, e⟩ := fold_ins (ys := ys) a (fun z hz => ok z (List.mem_cons_of_mem _ hz)) pc.2 fun r hr z hz => Int.le_trans (c r hr) (pc.1 z hz)
    refine ⟨d, fun k => ?_⟩
    show memL (ys.foldl ins (ins rows y)) k = _
    rw [e, b, memL_cons, Bool.or_assoc]
/-! ### both -/
def bothF : List S → List S → List S
  | x :: l, y :: m => (if meetsF x y then [(maxI x.1 y.1, earlier x.2 y.2)] else []) ++ (if x.2 = earlier x.2 y.2 then bothF l (y :: m) else bothF (x :: l) m)
  | [], _ => []
  | _ :: _, [] => []
termination_by l m => l.length + m.length
theorem both_ok : ∀ (n : Nat) (l m : List S), l.length + m.length ≤ n → Lot l → Lot m → Lot (bothF l m) ∧ ∀ c, memL (bothF l m) c = (memL l c && memL m c)
  | _, [], m, _, _, _ => by rw [bothF]; exact ⟨Lot.nil, fun c => by simp [memL]⟩
  | _, x :: l, [], _, _, _ => by rw [bothF]; exact ⟨Lot.nil, fun c => by simp [memL]⟩
  | 0, x :: l, y :: m, h, _, _ => by simp at h
  | n + 1, x :: l, y :: m, h, hl, hm => by
    have okx := hl.ok x List.mem_cons_self
    have oky := hm.ok y List.mem_cons_self
    simp at h
    -- the rest, and where it lies
    have rest : ∀ R : List S, Lot R → (∀ c, memL R c = true → ∃ k, earlier x.2 y.2 = some k ∧ k < c) → (∀ c, memL R c = (memL (x :: l) c && memL (y :: m) c && !(inS x c && inS y c))) →
        Lot ((if meetsF x y then [(maxI x.1 y.1, earlier x.2 y.2)] else []) ++ R) ∧ ∀ c, memL ((if meetsF x y then [(maxI x.1 y.1, earlier x.2 y.2)] else []) ++ R) c = (memL (x :: l) c && memL (y :: m) c) := fun R hR far eR => by
      have cells : ∀ c, (inS x c && inS y c) = true → (memL (x :: l) c && memL (y :: m) c) = true := fun c hc => by
        rw [Bool.and_eq_true] at hc
        rw [memL_cons, memL_cons, hc.1, hc.2]; rfl
      cases q : meetsF x y with
      | true =>
        refine ⟨⟨fun z hz => ?_, ?_⟩, fun c => ?_⟩
        · rcases List.mem_append.mp hz with hz | hz
          · simp at hz; rw [hz]; exact meets_ok okx q
          · exact hR.ok z hz
        · rw [if_pos rfl, List.pairwise_append]
          refine ⟨by simp, hR.gap, fun a ha b hb => ?_⟩
          simp at ha; rw [ha]
          obtain ⟨k, e, lt⟩ := far b.1 (memL_iff.mpr ⟨b, hb, inS_fst (hR.ok b hb)⟩)
          exact reach_no.mpr ⟨k, e, lt⟩
        · rw [if_pos rfl, memL_append, eR]
          have one : memL [(maxI x.1 y.1, earlier x.2 y.2)] c = (inS x c && inS y c) := by rw [memL_cons, both_in]; simp [memL]
          rw [one]
          have := cells c
          cases z : (inS x c && inS y c) with
          | true => rw [this z]; rfl
          | false => simp [z]
      | false =>
        refine ⟨by simpa using hR, fun c => ?_⟩
        simp only [Bool.false_eq_true, if_false, List.nil_append]
        rw [eR, meets_no q c]; simp
    rw [bothF]
    by_cases e : x.2 = earlier x.2 y.2
    · rw [if_pos e]
      obtain ⟨a, b⟩ := both_ok n l (y :: m) (by simp; omega) hl.tail hm
      refine rest _ a (fun c hc => ?_) fun c => ?_
      · rw [b, Bool.and_eq_true] at hc
        rw [← e]; exact hl.behind hc.1
      · rw [b, memL_cons (x := x)]
        cases z : inS x c with
        | false => simp
        | true =>
          have nl : memL l c = false := by
            cases q : memL l c with
            | false => rfl
            | true => obtain ⟨k, ek, lt⟩ := hl.behind q; have := (inS_iff.mp z).2 k ek; omega
          rw [nl]
          rw [memL_cons]
          cases w : inS y c with
          | true => simp
          | false =>
            have nm : memL m c = false := by
              cases q : memL m c with
              | false => rfl
              | true =>
                obtain ⟨k, ek, lt⟩ := hm.behind q
                have h2 := (inS_iff.mp z).2
                rw [e] at h2
                have := (earlier_in.mp h2).2 k ek
                omega
            rw [nm]; rfl
    · rw [if_neg e]
      have e2 : y.2 = earlier x.2 y.2 := by
        cases ex : x.2 with
        | none => cases ey : y.2 <;> rfl
        | some a =>
          cases ey : y.2 with
          | none => rw [ex, ey] at e; exact absurd rfl e
          | some b =>
            rw [ex, ey] at e
            simp [earlier] at e ⊢
            omega
      obtain ⟨a, b⟩ := both_ok n (x :: l) m (by simp; omega) hl hm.tail
      refine rest _ a (fun c hc => ?_) fun c => ?_
      · rw [b, Bool.and_eq_true] at hc
        rw [← e2]; exact hm.behind hc.2
      · rw [b, memL_cons (x := y)]
        cases z : inS y c with
        | false => simp
        | true =>
          have nm : memL m c = false := by
            cases q : memL m c with
            | false => rfl
            | true => obtain ⟨k, ek, lt⟩ := hm.behind q; have := (inS_iff.mp z).2 k ek; omega
          rw [nm]
          rw [memL_cons]
          cases w : inS x c with
          | true => simp
          | false =>
            have nl : memL l c = false := by
              cases q : memL l c with
              | false => rfl
              | true =>
                obtain ⟨k, ek, lt⟩ := hl.behind q
                have h2 := (inS_iff.mp z).2
                rw [e2] at h2
                have := (earlier_in.mp h2).1 k ek
                omega
            rw [nl]; rfl
/-! ### gaps -/
def gapsF : Int → List S → List S
  | s, [] => [(s, none)]
  | s, (f, none) :: _ => if s < f then [(s, some f)] else []
  | s, (f, some e) :: l => (if s < f then [(s, some f)] else []) ++ gapsF e l
theorem gaps_ok : ∀ {l : List S} {s : Int}, 0 ≤ s → Lot l → (∀ c, memL l c = true → s ≤ c) → (∀ x l', l = x :: l' → s < x.1 ∨ s = 0) →
    Lot (gapsF s l) ∧ ∀ c, memL (gapsF s l) c = (decide (s ≤ c) && !memL l c)
  | [], s, h0, _, _, _ => by
    rw [gapsF]
    refine ⟨⟨fun x hx => ?_, by simp⟩, fun c => by simp [memL, inS]⟩
    simp at hx; rw [hx]; simp [stOk, h0]
  | (f, none) :: l, s, h0, h, fr, st => by
    have ln : l = [] := by
      cases l with
      | nil => rfl
      | cons y l =>
        have := (List.pairwise_cons.mp h.gap).1 y List.mem_cons_self
        simp [reach] at this
    subst ln
    rw [gapsF]
    have sf : s ≤ f := fr f (by rw [memL_cons, inS_fst (h.ok _ List.mem_cons_self)]; rfl)
    split
    · rename_i lt
      refine ⟨⟨fun x hx => ?_, by simp⟩, fun c => ?_⟩
      · simp at hx; rw [hx]; simp [stOk, h0, lt]
      · simp only [memL, inS, List.any_cons, List.any_nil, Bool.or_false, Bool.and_true]
        rw [Bool.eq_iff_iff]; simp
    · refine ⟨Lot.nil, fun c => ?_⟩
      have : s = f := by omega
      simp [memL, inS, this]
  | (f, some e) :: l, s, h0, h, fr, st => by
    rw [gapsF]
    have okx := (stOk_iff.mp (h.ok _ List.mem_cons_self)).2 e rfl
    have okx' : f < e := okx
    have sf : s ≤ f := fr f (by rw [memL_cons, inS_fst (h.ok _ List.mem_cons_self)]; rfl)
    have bh : ∀ c, memL l c = true → e < c := fun c hc => by
      obtain ⟨k, ek, lt⟩ := h.behind hc
      cases ek; exact lt
    obtain ⟨a, b⟩ := gaps_ok (l := l) (s := e) (by omega) h.tail (fun c hc => by have := bh c hc; omega) fun x l' el => by
      left
      exact bh x.1 (by rw [el, memL_cons, inS_fst (h.tail.ok x (by rw [el]; exact List.mem_cons_self))]; rfl)
    have mem : ∀ c, (decide (s ≤ c) && decide (c < f) || memL (gapsF e l) c) = (decide (s ≤ c) && !memL ((f, some e) :: l) c) := fun c => by
      rw [b, memL_cons]
      cases q : memL l c with
      | true =>
        have := bh c q
        have n1 : ¬ c < f := by omega
        simp [n1]
      | false =>
        rw [Bool.eq_iff_iff]
        simp [inS]
        omega
    split
    · rename_i lt
      refine ⟨⟨fun x hx => ?_, ?_⟩, fun c => ?_⟩
      · rcases List.mem_append.mp hx with hx | hx
        · simp at hx; rw [hx]; simp [stOk, h0, lt]
        · exact a.ok x hx
      · rw [List.pairwise_append]
        refine ⟨by simp, a.gap, fun p hp q hq => ?_⟩
        simp at hp; rw [hp]
        have := b q.1
        rw [memL_iff.mpr ⟨q, hq, inS_fst (a.ok q hq)⟩] at this
        have h2 : e ≤ q.1 := by
          have h3 := this.symm
          rw [Bool.and_eq_true] at h3
          simpa using h3.1
        exact reach_no.mpr ⟨f, rfl, by omega⟩
      · rw [memL_append, ← mem c]
        congr 1
        simp [memL, inS]
    · refine ⟨by simpa using a, fun c => ?_⟩
      rw [List.nil_append, ← mem c]
      have : s = f := by omega
      have n : (decide (s ≤ c) && decide (c < f)) = false := by rw [Bool.eq_false_iff]; simp; omega
      rw [n, Bool.false_or]
end K2

namespace K2
open PySem L2
theorem Rep.st_of {H : Hp} {x : S} {v : V} (h : Rep H (stD x) v) : ∃ a, v = .ref a ∧ H a = some (.tup [.int x.1, endV x.2]) := by
  obtain ⟨a, vs, rfl, ha, rv⟩ := h.tup_of
  obtain ⟨v1, _, rfl, g1, rv⟩ := rv.uncons
  obtain ⟨v2, _, rfl, g2, rv⟩ := rv.uncons
  have := rv.unnil; subst this
  have := g1.int_of; subst this
  have := Rep.end_of g2; subst this
  exact ⟨a, rfl, ha⟩
theorem Rep.st {H : Hp} {x : S} {a : Addr} (h : H a = some (.tup [.int x.1, endV x.2])) : Rep H (stD x) (.ref a) := Rep.tup h (.cons .int (.cons (rep_end _) .nil))
theorem endV_ne (e : Int) : ¬ (V.int e = V.non) := fun h => by cases h
theorem i0 {a b : V} : atI [a, b] 0 = some a := rfl
theorem i1 {a b : V} : atI [a, b] 1 = some b := rfl
/-- the stretches that a tuple bears -/
theorem Reps.st_get {H : Hp} {l : List S} {vs : List V} {i : Nat} {v : V} (h : Reps H (l.map stD) vs) (e : vs[i]? = some v) : ∃ x a, l[i]? = some x ∧ v = .ref a ∧ H a = some (.tup [.int x.1, endV x.2]) := by
  obtain ⟨d, hd, hr⟩ := h.get' e
  rw [List.getElem?_map] at hd
  cases q : l[i]? with
  | none => rw [q] at hd; cases hd
  | some x =>
    rw [q] at hd
    cases hd
    obtain ⟨a, rfl, ha⟩ := (Rep.st_of hr)
    exact ⟨x, a, rfl, rfl, ha⟩
section
variable {P : Program} {w : World} {K : PySem.W.Frag} {mg : Str → Option Value} {base : Heap}
/-! ### ends -/
def spLater : Sp := fun vs H Q _ => ∃ a b, vs = [endV a, endV b] ∧ Q (endV (later a b)) H
def spEarlier : Sp := fun vs H Q _ => ∃ a b, vs = [endV a, endV b] ∧ Q (endV (earlier a b)) H
theorem sc_later_end : FnScope ["one", "other"] ["one", "other"] (defScope (top 14)) := ⟨rfl, rfl, rfl, by decide +kernel, rfl, by decide +kernel, by decide +kernel⟩
theorem ok_later (d : Def K mg "later_end" (top 14)) (M : Mods mg) : Cal P w K mg base "later_end" 1 ["one", "other"] spLater := by
  refine d.ok sc_later_end (fun vs H Q E h => ?_) (fun _ _ _ _ _ _ us hl => match us, hl with | [_, _], _ => rfl) (fun f cdv A outer s H vs Q E hr h => ?_)
  · obtain ⟨a, b, rfl, _⟩ := h
    rfl
  · obtain ⟨a, b, rfl, k⟩ := h
    apply Exists.intro; apply And.intro
    · (conv => arg 2; whnf)
      with_reducible exact (pss_cons (ps_if (PW.pt (pw_or (pt_cmp (pc_isN (pv 0))) (pw_or1 (pt_cmp (pc_isN (pv 1)))))) (pss_one (ps_ret pe_non)) pss_nil)
      (pss_one (ps_ret (pe_callB (call_max2F (by with_unfolding_all rfl)) (by with_unfolding_all rfl) M.max boot_max' (pa_cons (pv 0) (pa_cons (pv 1) pa_nil))))))
    have e0 : L2.start ["one", "other"] [endV a, endV b] = [some (endV a), some (endV b)] := rfl
    rw [e0]
    cases a with
    | none => simp only [tSeq_at, tNext_at, tRet_at, tIfS_at, tAsg_at, tDrop_at, tPar_at, gName_at, gTupF_at, gCons_cons, gNil_nil, tVar_at, tC_at, tOp_at, tUn_at, tIf_at, tAnd_at, tOr_at, tNot_at, onB_bl, tAndV_at, tOrV_at, tB_at, tTest_at, tIsN_at, tNotN_at, tTruth_at, tCB_at, tCall_at, tCons_at, tNil_at, tTup_at, tLst_at, rI0_at, rI_at, rU_at, rEq_at, rNe_at, rIxF_at, rLenF_at, rInF_at, rTupleF_at, rIsi_at, tBM_at, iList_at, iTup_at, onL_at, onT_at, iRng1_at, rCatTF_at, tLc_at, tFor_eq, tYes_at, on_some, List.getElem?_cons_zero, List.getElem?_cons_succ, Option.join_some, List.set_cons_zero, List.set_cons_succ, List.nil_append, List.cons_append, List.append_nil, if_true, if_false, Bool.false_eq_true, reduceIte, Bool.not_true, Bool.not_false, Int.toNat_natCast, endV, decide_true]; exact k
    | some a =>
      cases b with
      | none => simp only [tSeq_at, tNext_at, tRet_at, tIfS_at, tAsg_at, tDrop_at, tPar_at, gName_at, gTupF_at, gCons_cons, gNil_nil, tVar_at, tC_at, tOp_at, tUn_at, tIf_at, tAnd_at, tOr_at, tNot_at, onB_bl, tAndV_at, tOrV_at, tB_at, tTest_at, tIsN_at, tNotN_at, tTruth_at, tCB_at, tCall_at, tCons_at, tNil_at, tTup_at, tLst_at, rI0_at, rI_at, rU_at, rEq_at, rNe_at, rIxF_at, rLenF_at, rInF_at, rTupleF_at, rIsi_at, tBM_at, iList_at, iTup_at, onL_at, onT_at, iRng1_at, rCatTF_at, tLc_at, tFor_eq, tYes_at, on_some, List.getElem?_cons_zero, List.getElem?_cons_succ, Option.join_some, List.set_cons_zero, List.set_cons_succ, List.nil_append, List.cons_append, List.append_nil, if_true, if_false, Bool.false_eq_true, reduceIte, Bool.not_true, Bool.not_false, Int.toNat_natCast, endV, endV_ne, decide_true, decide_false]; exact k
      | some b => simp only [tSeq_at, tNext_at, tRet_at, tIfS_at, tAsg_at, tDrop_at, tPar_at, gName_at, gTupF_at, gCons_cons, gNil_nil, tVar_at, tC_at, tOp_at, tUn_at, tIf_at, tAnd_at, tOr_at, tNot_at, onB_bl, tAndV_at, tOrV_at, tB_at, tTest_at, tIsN_at, tNotN_at, tTruth_at, tCB_at, tCall_at, tCons_at, tNil_at, tTup_at, tLst_at, rI0_at, rI_at, rU_at, rEq_at, rNe_at, rIxF_at, rLenF_at, rInF_at, rTupleF_at, rIsi_at, tBM_at, iList_at, iTup_at, onL_at, onT_at, iRng1_at, rCatTF_at, tLc_at, tFor_eq, tYes_at, on_some, List.getElem?_cons_zero, List.getElem?_cons_succ, Option.join_some, List.set_cons_zero, List.set_cons_succ, List.nil_append, List.cons_append, List.append_nil, if_true, if_false, Bool.false_eq_true, reduceIte, Bool.not_true, Bool.not_false, Int.toNat_natCast, endV, endV_ne, decide_false, rMax2F_at]; exact k
theorem sc_earlier_end : FnScope ["one", "other"] ["one", "other"] (defScope (top 13)) := ⟨rfl, rfl, rfl, by decide +kernel, rfl, by decide +kernel, by decide +kernel⟩
theorem ok_earlier (d : Def K mg "earlier_end" (top 13)) (M : Mods mg) : Cal P w K mg base "earlier_end" 1 ["one", "other"] spEarlier := by
  refine d.ok sc_earlier_end (fun vs H Q E h => ?_) (fun _ _ _ _ _ _ us hl => match us, hl with | [_, _], _ => rfl) (fun f cdv A outer s H vs Q E hr h => ?_)
  · obtain ⟨a, b, rfl, _⟩ := h
    rfl
  · obtain ⟨a, b, rfl, k⟩ := h
    apply Exists.intro; apply And.intro
    · (conv => arg 2; whnf)
      with_reducible exact (pss_cons (ps_if (pt_cmp (pc_isN (pv 0))) (pss_one (ps_ret (pv 1))) pss_nil)
      (pss_cons (ps_if (pt_cmp (pc_isN (pv 1))) (pss_one (ps_ret (pv 0))) pss_nil)
      (pss_one (ps_ret (pe_callB (call_min2F (by with_unfolding_all rfl)) (by with_unfolding_all rfl) M.min boot_min' (pa_cons (pv 0) (pa_cons (pv 1) pa_nil)))))))
    have e0 : L2.start ["one", "other"] [endV a, endV b] = [some (endV a), some (endV b)] := rfl
    rw [e0]
    cases a with
    | none => simp only [tSeq_at, tNext_at, tRet_at, tIfS_at, tAsg_at, tDrop_at, tPar_at, gName_at, gTupF_at, gCons_cons, gNil_nil, tVar_at, tC_at, tOp_at, tUn_at, tIf_at, tAnd_at, tOr_at, tNot_at, onB_bl, tAndV_at, tOrV_at, tB_at, tTest_at, tIsN_at, tNotN_at, tTruth_at, tCB_at, tCall_at, tCons_at, tNil_at, tTup_at, tLst_at, rI0_at, rI_at, rU_at, rEq_at, rNe_at, rIxF_at, rLenF_at, rInF_at, rTupleF_at, rIsi_at, tBM_at, iList_at, iTup_at, onL_at, onT_at, iRng1_at, rCatTF_at, tLc_at, tFor_eq, tYes_at, on_some, List.getElem?_cons_zero, List.getElem?_cons_succ, Option.join_some, List.set_cons_zero, List.set_cons_succ, List.nil_append, List.cons_append, List.append_nil, if_true, if_false, Bool.false_eq_true, reduceIte, Bool.not_true, Bool.not_false, Int.toNat_natCast, endV, decide_true]; exact k
    | some a =>
      cases b with
      | none => simp only [tSeq_at, tNext_at, tRet_at, tIfS_at, tAsg_at, tDrop_at, tPar_at, gName_at, gTupF_at, gCons_cons, gNil_nil, tVar_at, tC_at, tOp_at, tUn_at, tIf_at, tAnd_at, tOr_at, tNot_at, onB_bl, tAndV_at, tOrV_at, tB_at, tTest_at, tIsN_at, tNotN_at, tTruth_at, tCB_at, tCall_at, tCons_at, tNil_at, tTup_at, tLst_at, rI0_at, rI_at, rU_at, rEq_at, rNe_at, rIxF_at, rLenF_at, rInF_at, rTupleF_at, rIsi_at, tBM_at, iList_at, iTup_at, onL_at, onT_at, iRng1_at, rCatTF_at, tLc_at, tFor_eq, tYes_at, on_some, List.getElem?_cons_zero, List.getElem?_cons_succ, Option.join_some, List.set_cons_zero, List.set_cons_succ, List.nil_append, List.cons_append, List.append_nil, if_true, if_false, Bool.false_eq_true, reduceIte, Bool.not_true, Bool.not_false, Int.toNat_natCast, endV, endV_ne, decide_true, decide_false]; exact k
      | some b => simp only [tSeq_at, tNext_at, tRet_at, tIfS_at, tAsg_at, tDrop_at, tPar_at, gName_at, gTupF_at, gCons_cons, gNil_nil, tVar_at, tC_at, tOp_at, tUn_at, tIf_at, tAnd_at, tOr_at, tNot_at, onB_bl, tAndV_at, tOrV_at, tB_at, tTest_at, tIsN_at, tNotN_at, tTruth_at, tCB_at, tCall_at, tCons_at, tNil_at, tTup_at, tLst_at, rI0_at, rI_at, rU_at, rEq_at, rNe_at, rIxF_at, rLenF_at, rInF_at, rTupleF_at, rIsi_at, tBM_at, iList_at, iTup_at, onL_at, onT_at, iRng1_at, rCatTF_at, tLc_at, tFor_eq, tYes_at, on_some, List.getElem?_cons_zero, List.getElem?_cons_succ, Option.join_some, List.set_cons_zero, List.set_cons_succ, List.nil_append, List.cons_append, List.append_nil, if_true, if_false, Bool.false_eq_true, reduceIte, Bool.not_true, Bool.not_false, Int.toNat_natCast, endV, endV_ne, decide_false, rMin2F_at]; exact k
/-! ### meets -/
def spMeets : Sp := fun vs H Q _ => ∃ (x y : S) (v u : V), vs = [v, u] ∧ Rep H (stD x) v ∧ Rep H (stD y) u ∧ Q (.bl (meetsF x y)) H
theorem sc_meets : FnScope ["one", "other", "end"] ["one", "other"] (defScope (top 10)) := ⟨rfl, rfl, rfl, by decide +kernel, rfl, by decide +kernel, by decide +kernel⟩
theorem ok_meets (d : Def K mg "meets" (top 10)) (M : Mods mg) (c_earlier : Cal P w K mg base "earlier_end" 1 ["one", "other"] spEarlier) : Cal P w K mg base "meets" 2 ["one", "other"] spMeets := by
  refine d.ok sc_meets (fun vs H Q E h => ?_) (fun _ _ _ _ _ _ us hl => match us, hl with | [_, _], _ => rfl) (fun f cdv A outer s H vs Q E hr h => ?_)
  · obtain ⟨x, y, v, u, rfl, _⟩ := h
    rfl
  · obtain ⟨x, y, v, u, rfl, hx, hy, k⟩ := h
    apply Exists.intro; apply And.intro
    · (conv => arg 2; whnf)
      with_reducible exact (pss_cons (ps_set (i := 2) sc_meets.nd (by with_unfolding_all rfl) (by with_unfolding_all exact (Or.inl rfl)) (pe_cal c_earlier (hr.mono (by decide)) (pa_cons (pe_ix ix_F (pv 0) pe_int (by with_unfolding_all exact (fun _ _ => rfl))) (pa_cons (pe_ix ix_F (pv 1) pe_int (by with_unfolding_all exact (fun _ _ => rfl))) pa_nil))))
      (pss_one (ps_ret (pe_or (pe_cmp (pc_isN (pv 2))) (pe_one (pe_cmpR op_lt (pe_callB (call_max2F (by with_unfolding_all rfl)) (by with_unfolding_all rfl) M.max boot_max' (pa_cons (pe_ix ix_F (pv 0) pe_int (by with_unfolding_all exact (fun _ _ => rfl))) (pa_cons (pe_ix ix_F (pv 1) pe_int (by with_unfolding_all exact (fun _ _ => rfl))) pa_nil))) (pv 2) (by with_unfolding_all exact (nomark _))))))))
    obtain ⟨a, rfl, ha⟩ := (Rep.st_of hx)
    obtain ⟨b, rfl, hb⟩ := (Rep.st_of hy)
    have e0 : L2.start ["one", "other", "end"] [.ref a, .ref b] = [some (.ref a), some (.ref b), none] := rfl
    rw [e0]
    simp only [tSeq_at, tNext_at, tRet_at, tIfS_at, tAsg_at, tDrop_at, tPar_at, gName_at, gTupF_at, gCons_cons, gNil_nil, tVar_at, tC_at, tOp_at, tUn_at, tIf_at, tAnd_at, tOr_at, tNot_at, onB_bl, tAndV_at, tOrV_at, tB_at, tTest_at, tIsN_at, tNotN_at, tTruth_at, tCB_at, tCall_at, tCons_at, tNil_at, tTup_at, tLst_at, rI0_at, rI_at, rU_at, rEq_at, rNe_at, rIxF_at, rLenF_at, rInF_at, rTupleF_at, rIsi_at, tBM_at, iList_at, iTup_at, onL_at, onT_at, iRng1_at, rCatTF_at, tLc_at, tFor_eq, tYes_at, on_some, List.getElem?_cons_zero, List.getElem?_cons_succ, Option.join_some, List.set_cons_zero, List.set_cons_succ, List.nil_append, List.cons_append, List.append_nil, if_true, if_false, Bool.false_eq_true, reduceIte, Bool.not_true, Bool.not_false, Int.toNat_natCast, seqAt_tup ha, seqAt_tup hb, i0, i1]
    refine ⟨x.2, y.2, rfl, ?_⟩
    unfold meetsF at k
    cases e : earlier x.2 y.2 with
    | none =>
      rw [e] at k
      simp only [tSeq_at, tNext_at, tRet_at, tIfS_at, tAsg_at, tDrop_at, tPar_at, gName_at, gTupF_at, gCons_cons, gNil_nil, tVar_at, tC_at, tOp_at, tUn_at, tIf_at, tAnd_at, tOr_at, tNot_at, onB_bl, tAndV_at, tOrV_at, tB_at, tTest_at, tIsN_at, tNotN_at, tTruth_at, tCB_at, tCall_at, tCons_at, tNil_at, tTup_at, tLst_at, rI0_at, rI_at, rU_at, rEq_at, rNe_at, rIxF_at, rLenF_at, rInF_at, rTupleF_at, rIsi_at, tBM_at, iList_at, iTup_at, onL_at, onT_at, iRng1_at, rCatTF_at, tLc_at, tFor_eq, tYes_at, on_some, List.getElem?_cons_zero, List.getElem?_cons_succ, Option.join_some, List.set_cons_zero, List.set_cons_succ, List.nil_append, List.cons_append, List.append_nil, if_true, if_false, Bool.false_eq_true, reduceIte, Bool.not_true, Bool.not_false, Int.toNat_natCast, endV, decide_true]; exact k
    | some c =>
      rw [e] at k
      simp only [tSeq_at, tNext_at, tRet_at, tIfS_at, tAsg_at, tDrop_at, tPar_at, gName_at, gTupF_at, gCons_cons, gNil_nil, tVar_at, tC_at, tOp_at, tUn_at, tIf_at, tAnd_at, tOr_at, tNot_at, onB_bl, tAndV_at, tOrV_at, tB_at, tTest_at, tIsN_at, tNotN_at, tTruth_at, tCB_at, tCall_at, tCons_at, tNil_at, tTup_at, tLst_at, rI0_at, rI_at, rU_at, rEq_at, rNe_at, rIxF_at, rLenF_at, rInF_at, rTupleF_at, rIsi_at, tBM_at, iList_at, iTup_at, onL_at, onT_at, iRng1_at, rCatTF_at, tLc_at, tFor_eq, tYes_at, on_some, List.getElem?_cons_zero, List.getElem?_cons_succ, Option.join_some, List.set_cons_zero, List.set_cons_succ, List.nil_append, List.cons_append, List.append_nil, if_true, if_false, Bool.false_eq_true, reduceIte, Bool.not_true, Bool.not_false, Int.toNat_natCast, endV, endV_ne, decide_false, seqAt_tup ha, seqAt_tup hb, i0, i1, rMax2F_at]; exact k
/-! ### has -/
def spHas : Sp := fun vs H Q _ => ∃ (l : List S) (c : Int) (v : V), vs = [v, .int c] ∧ Rep H (.tup (l.map stD)) v ∧ Q (.bl (memL l c)) H
theorem sc_has : FnScope ["lot", "cell", "first", "end"] ["lot", "cell"] (defScope (top 8)) := ⟨rfl, rfl, rfl, by decide +kernel, rfl, by decide +kernel, by decide +kernel⟩
theorem ok_has (d : Def K mg "has" (top 8)) (M : Mods mg) : Cal P w K mg base "has" 1 ["lot", "cell"] spHas := by
  refine d.ok sc_has (fun vs H Q E h => ?_) (fun _ _ _ _ _ _ us hl => match us, hl with | [_, _], _ => rfl) (fun f cdv A outer s H vs Q E hr h => ?_)
  · obtain ⟨l, c, v, rfl, _⟩ := h
    rfl
  · obtain ⟨l, c, v, rfl, hv, k⟩ := h
    apply Exists.intro; apply And.intro
    · (conv => arg 2; whnf)
      with_reducible exact (pss_cons (ps_for PassesOwn.never (by with_unfolding_all rfl) (pi_tup (pv 0)) (pg_tupF (n := 2) (by with_unfolding_all rfl) (pgs_cons (pg_name (i := 2) sc_has.nd (by with_unfolding_all rfl) (by with_unfolding_all exact (Or.inl rfl))) (pgs_cons (pg_name (i := 3) sc_has.nd (by with_unfolding_all rfl) (by with_unfolding_all exact (Or.inl rfl))) pgs_nil))) (pss_one (ps_if (PW.pt (pw_and (pt_cmpR op_le (pv 2) (pv 1) (by with_unfolding_all exact (nomark _))) (pw_and1 (PW.pt (pw_or (pt_cmp (pc_isN (pv 3))) (pw_or1 (pt_cmpR op_lt (pv 1) (pv 3) (by with_unfolding_all exact (nomark _))))))))) (pss_one (ps_ret pe_bl)) pss_nil)))
      (pss_one (ps_ret pe_bl)))
    obtain ⟨a, vs, rfl, ha, rv⟩ := hv.tup_of
    have e0 : L2.start ["lot", "cell", "first", "end"] [.ref a, .int c] = [some (.ref a), some (.int c), none, none] := rfl
    rw [e0]
    simp only [tSeq_at, tNext_at, tRet_at, tIfS_at, tAsg_at, tDrop_at, tPar_at, gName_at, gTupF_at, gCons_cons, gNil_nil, tVar_at, tC_at, tOp_at, tUn_at, tIf_at, tAnd_at, tOr_at, tNot_at, onB_bl, tAndV_at, tOrV_at, tB_at, tTest_at, tIsN_at, tNotN_at, tTruth_at, tCB_at, tCall_at, tCons_at, tNil_at, tTup_at, tLst_at, rI0_at, rI_at, rU_at, rEq_at, rNe_at, rIxF_at, rLenF_at, rInF_at, rTupleF_at, rIsi_at, tBM_at, iList_at, iTup_at, onL_at, onT_at, iRng1_at, rCatTF_at, tLc_at, tFor_eq, tYes_at, on_some, List.getElem?_cons_zero, List.getElem?_cons_succ, Option.join_some, List.set_cons_zero, List.set_cons_succ, List.nil_append, List.cons_append, List.append_nil, if_true, if_false, Bool.false_eq_true, reduceIte, Bool.not_true, Bool.not_false, Int.toNat_natCast]
    refine ⟨⟨_, SqT.of ha⟩, for_tup' (K := K) (a := a) (xs := vs) (fun i σ H2 => H2 = H ∧ (∃ s1 s2, σ = [some (.ref a), some (.int c), s1, s2]) ∧ memL (l.take i) c = false) ⟨rfl, ⟨_, _, rfl⟩, rfl⟩ ?_ ?_ ?_⟩
    · rintro i σ H2 _ ⟨rfl, _⟩; exact SqT.of ha
    · rintro i v σ H2 hvi ⟨rfl, ⟨s1, s2, rfl⟩, no⟩
      obtain ⟨⟨f, e⟩, b, hx, rfl, hb⟩ := Reps.st_get rv hvi
      have tk : l.take (i + 1) = l.take i ++ [(f, e)] := by rw [List.take_add_one, hx]; rfl
      have yes : inS (f, e) c = true → memL l c = true := fun h => memL_iff.mpr ⟨_, List.mem_of_getElem? hx, h⟩
      have stay : inS (f, e) c = false → memL (l.take (i + 1)) c = false := fun h => by rw [tk, memL_append, no]; simp [memL, h]
      simp only [tSeq_at, tNext_at, tRet_at, tIfS_at, tAsg_at, tDrop_at, tPar_at, gName_at, gTupF_at, gCons_cons, gNil_nil, tVar_at, tC_at, tOp_at, tUn_at, tIf_at, tAnd_at, tOr_at, tNot_at, onB_bl, tAndV_at, tOrV_at, tB_at, tTest_at, tIsN_at, tNotN_at, tTruth_at, tCB_at, tCall_at, tCons_at, tNil_at, tTup_at, tLst_at, rI0_at, rI_at, rU_at, rEq_at, rNe_at, rIxF_at, rLenF_at, rInF_at, rTupleF_at, rIsi_at, tBM_at, iList_at, iTup_at, onL_at, onT_at, iRng1_at, rCatTF_at, tLc_at, tFor_eq, tYes_at, on_some, List.getElem?_cons_zero, List.getElem?_cons_succ, Option.join_some, List.set_cons_zero, List.set_cons_succ, List.nil_append, List.cons_append, List.append_nil, if_true, if_false, Bool.false_eq_true, reduceIte, Bool.not_true, Bool.not_false, Int.toNat_natCast, tupAt_tup hb]
      refine ⟨rfl, ?_⟩
      by_cases q : f ≤ c
      · cases e with
        | none =>
          simp only [tSeq_at, tNext_at, tRet_at, tIfS_at, tAsg_at, tDrop_at, tPar_at, gName_at, gTupF_at, gCons_cons, gNil_nil, tVar_at, tC_at, tOp_at, tUn_at, tIf_at, tAnd_at, tOr_at, tNot_at, onB_bl, tAndV_at, tOrV_at, tB_at, tTest_at, tIsN_at, tNotN_at, tTruth_at, tCB_at, tCall_at, tCons_at, tNil_at, tTup_at, tLst_at, rI0_at, rI_at, rU_at, rEq_at, rNe_at, rIxF_at, rLenF_at, rInF_at, rTupleF_at, rIsi_at, tBM_at, iList_at, iTup_at, onL_at, onT_at, iRng1_at, rCatTF_at, tLc_at, tFor_eq, tYes_at, on_some, List.getElem?_cons_zero, List.getElem?_cons_succ, Option.join_some, List.set_cons_zero, List.set_cons_succ, List.nil_append, List.cons_append, List.append_nil, if_true, if_false, Bool.false_eq_true, reduceIte, Bool.not_true, Bool.not_false, Int.toNat_natCast, q, decide_true, endV]
          rw [yes (by simp [inS, q])] at k; exact k
        | some e =>
          simp only [tSeq_at, tNext_at, tRet_at, tIfS_at, tAsg_at, tDrop_at, tPar_at, gName_at, gTupF_at, gCons_cons, gNil_nil, tVar_at, tC_at, tOp_at, tUn_at, tIf_at, tAnd_at, tOr_at, tNot_at, onB_bl, tAndV_at, tOrV_at, tB_at, tTest_at, tIsN_at, tNotN_at, tTruth_at, tCB_at, tCall_at, tCons_at, tNil_at, tTup_at, tLst_at, rI0_at, rI_at, rU_at, rEq_at, rNe_at, rIxF_at, rLenF_at, rInF_at, rTupleF_at, rIsi_at, tBM_at, iList_at, iTup_at, onL_at, onT_at, iRng1_at, rCatTF_at, tLc_at, tFor_eq, tYes_at, on_some, List.getElem?_cons_zero, List.getElem?_cons_succ, Option.join_some, List.set_cons_zero, List.set_cons_succ, List.nil_append, List.cons_append, List.append_nil, if_true, if_false, Bool.false_eq_true, reduceIte, Bool.not_true, Bool.not_false, Int.toNat_natCast, q, decide_true, endV, endV_ne, decide_false]
          by_cases q2 : c < e
          · simp only [tSeq_at, tNext_at, tRet_at, tIfS_at, tAsg_at, tDrop_at, tPar_at, gName_at, gTupF_at, gCons_cons, gNil_nil, tVar_at, tC_at, tOp_at, tUn_at, tIf_at, tAnd_at, tOr_at, tNot_at, onB_bl, tAndV_at, tOrV_at, tB_at, tTest_at, tIsN_at, tNotN_at, tTruth_at, tCB_at, tCall_at, tCons_at, tNil_at, tTup_at, tLst_at, rI0_at, rI_at, rU_at, rEq_at, rNe_at, rIxF_at, rLenF_at, rInF_at, rTupleF_at, rIsi_at, tBM_at, iList_at, iTup_at, onL_at, onT_at, iRng1_at, rCatTF_at, tLc_at, tFor_eq, tYes_at, on_some, List.getElem?_cons_zero, List.getElem?_cons_succ, Option.join_some, List.set_cons_zero, List.set_cons_succ, List.nil_append, List.cons_append, List.append_nil, if_true, if_false, Bool.false_eq_true, reduceIte, Bool.not_true, Bool.not_false, Int.toNat_natCast, q2, decide_true]
            rw [yes (by simp [inS, q, q2])] at k; exact k
          · simp only [tSeq_at, tNext_at, tRet_at, tIfS_at, tAsg_at, tDrop_at, tPar_at, gName_at, gTupF_at, gCons_cons, gNil_nil, tVar_at, tC_at, tOp_at, tUn_at, tIf_at, tAnd_at, tOr_at, tNot_at, onB_bl, tAndV_at, tOrV_at, tB_at, tTest_at, tIsN_at, tNotN_at, tTruth_at, tCB_at, tCall_at, tCons_at, tNil_at, tTup_at, tLst_at, rI0_at, rI_at, rU_at, rEq_at, rNe_at, rIxF_at, rLenF_at, rInF_at, rTupleF_at, rIsi_at, tBM_at, iList_at, iTup_at, onL_at, onT_at, iRng1_at, rCatTF_at, tLc_at, tFor_eq, tYes_at, on_some, List.getElem?_cons_zero, List.getElem?_cons_succ, Option.join_some, List.set_cons_zero, List.set_cons_succ, List.nil_append, List.cons_append, List.append_nil, if_true, if_false, Bool.false_eq_true, reduceIte, Bool.not_true, Bool.not_false, Int.toNat_natCast, q2, decide_false]
            exact ⟨trivial, ⟨_, _, rfl⟩, stay (by simp [inS, q2])⟩
      · simp only [tSeq_at, tNext_at, tRet_at, tIfS_at, tAsg_at, tDrop_at, tPar_at, gName_at, gTupF_at, gCons_cons, gNil_nil, tVar_at, tC_at, tOp_at, tUn_at, tIf_at, tAnd_at, tOr_at, tNot_at, onB_bl, tAndV_at, tOrV_at, tB_at, tTest_at, tIsN_at, tNotN_at, tTruth_at, tCB_at, tCall_at, tCons_at, tNil_at, tTup_at, tLst_at, rI0_at, rI_at, rU_at, rEq_at, rNe_at, rIxF_at, rLenF_at, rInF_at, rTupleF_at, rIsi_at, tBM_at, iList_at, iTup_at, onL_at, onT_at, iRng1_at, rCatTF_at, tLc_at, tFor_eq, tYes_at, on_some, List.getElem?_cons_zero, List.getElem?_cons_succ, Option.join_some, List.set_cons_zero, List.set_cons_succ, List.nil_append, List.cons_append, List.append_nil, if_true, if_false, Bool.false_eq_true, reduceIte, Bool.not_true, Bool.not_false, Int.toNat_natCast, q, decide_false]
        exact ⟨trivial, ⟨_, _, rfl⟩, stay (by simp [inS, q])⟩
    · rintro σ H2 ⟨rfl, _, no⟩
      have hl : vs.length = l.length := by rw [rv.length, List.length_map]
      rw [hl, List.take_of_length_le (Nat.le_refl _)] at no
      rw [no] at k
      simp only [tSeq_at, tNext_at, tRet_at, tIfS_at, tAsg_at, tDrop_at, tPar_at, gName_at, gTupF_at, gCons_cons, gNil_nil, tVar_at, tC_at, tOp_at, tUn_at, tIf_at, tAnd_at, tOr_at, tNot_at, onB_bl, tAndV_at, tOrV_at, tB_at, tTest_at, tIsN_at, tNotN_at, tTruth_at, tCB_at, tCall_at, tCons_at, tNil_at, tTup_at, tLst_at, rI0_at, rI_at, rU_at, rEq_at, rNe_at, rIxF_at, rLenF_at, rInF_at, rTupleF_at, rIsi_at, tBM_at, iList_at, iTup_at, onL_at, onT_at, iRng1_at, rCatTF_at, tLc_at, tFor_eq, tYes_at, on_some, List.getElem?_cons_zero, List.getElem?_cons_succ, Option.join_some, List.set_cons_zero, List.set_cons_succ, List.nil_append, List.cons_append, List.append_nil, if_true, if_false, Bool.false_eq_true, reduceIte, Bool.not_true, Bool.not_false, Int.toNat_natCast]
      exact k
/-! ### size_of -/
def sizeF : List S → Option Int
  | [] => some 0
  | (_, none) :: _ => none
  | (f, some e) :: l => (sizeF l).map fun n => e - f + n
def spSize : Sp := fun vs H Q _ => ∃ (l : List S) (v : V), vs = [v] ∧ Rep H (.tup (l.map stD)) v ∧ Q (endV (sizeF l)) H
theorem sc_size_of : FnScope ["lot", "many", "first", "end"] ["lot"] (defScope (top 9)) := ⟨rfl, rfl, rfl, by decide +kernel, rfl, by decide +kernel, by decide +kernel⟩
theorem ok_size (d : Def K mg "size_of" (top 9)) (M : Mods mg) : Cal P w K mg base "size_of" 1 ["lot"] spSize := by
  refine d.ok sc_size_of (fun vs H Q E h => ?_) (fun _ _ _ _ _ _ us hl => match us, hl with | [_], _ => rfl) (fun f cdv A outer s H vs Q E hr h => ?_)
  · obtain ⟨l, v, rfl, _⟩ := h
    rfl
  · obtain ⟨l, v, rfl, hv, k⟩ := h
    apply Exists.intro; apply And.intro
    · (conv => arg 2; whnf)
      with_reducible exact (pss_cons (ps_set (i := 1) sc_size_of.nd (by with_unfolding_all rfl) (by with_unfolding_all exact (Or.inl rfl)) pe_int)
      (pss_cons (ps_for PassesOwn.never (by with_unfolding_all rfl) (pi_tup (pv 0)) (pg_tupF (n := 2) (by with_unfolding_all rfl) (pgs_cons (pg_name (i := 2) sc_size_of.nd (by with_unfolding_all rfl) (by with_unfolding_all exact (Or.inl rfl))) (pgs_cons (pg_name (i := 3) sc_size_of.nd (by with_unfolding_all rfl) (by with_unfolding_all exact (Or.inl rfl))) pgs_nil))) (pss_cons (ps_if (pt_cmp (pc_isN (pv 3))) (pss_one (ps_ret pe_non)) pss_nil)
      (pss_one (ps_aug (i := 1) sc_size_of.nd (by with_unfolding_all rfl) (by with_unfolding_all exact (Or.inl rfl)) (pe_op op_sub (pv 3) (pv 2)) ip_add))))
      (pss_one (ps_ret (pv 1)))))
    obtain ⟨a, vs, rfl, ha, rv⟩ := hv.tup_of
    have e0 : L2.start ["lot", "many", "first", "end"] [.ref a] = [some (.ref a), none, none, none] := rfl
    rw [e0]
    have hl : vs.length = l.length := by rw [rv.length, List.length_map]
    simp only [tSeq_at, tNext_at, tRet_at, tIfS_at, tAsg_at, tDrop_at, tPar_at, gName_at, gTupF_at, gCons_cons, gNil_nil, tVar_at, tC_at, tOp_at, tUn_at, tIf_at, tAnd_at, tOr_at, tNot_at, onB_bl, tAndV_at, tOrV_at, tB_at, tTest_at, tIsN_at, tNotN_at, tTruth_at, tCB_at, tCall_at, tCons_at, tNil_at, tTup_at, tLst_at, rI0_at, rI_at, rU_at, rEq_at, rNe_at, rIxF_at, rLenF_at, rInF_at, rTupleF_at, rIsi_at, tBM_at, iList_at, iTup_at, onL_at, onT_at, iRng1_at, rCatTF_at, tLc_at, tFor_eq, tYes_at, on_some, List.getElem?_cons_zero, List.getElem?_cons_succ, Option.join_some, List.set_cons_zero, List.set_cons_succ, List.nil_append, List.cons_append, List.append_nil, if_true, if_false, Bool.false_eq_true, reduceIte, Bool.not_true, Bool.not_false, Int.toNat_natCast]
    refine ⟨⟨_, SqT.of ha⟩, for_tup' (K := K) (a := a) (xs := vs) (fun i σ H2 => H2 = H ∧ ∃ s1 s2 n, σ = [some (.ref a), some (.int n), s1, s2] ∧ sizeF l = (sizeF (l.drop i)).map fun m => n + m) ⟨rfl, _, _, 0, rfl, by rw [List.drop_zero]; cases h : sizeF l <;> simp⟩ ?_ ?_ ?_⟩
    · rintro i σ H2 _ ⟨rfl, _⟩; exact SqT.of ha
    · rintro i v σ H2 hvi ⟨rfl, s1, s2, n, rfl, inv⟩
      obtain ⟨⟨f, e⟩, b, hx, rfl, hb⟩ := Reps.st_get rv hvi
      have li : i < l.length := (List.getElem?_eq_some_iff.mp hx).1
      have dr : l.drop i = (f, e) :: l.drop (i + 1) := by
        rw [List.drop_eq_getElem_cons li]
        congr 1
        rw [List.getElem?_eq_getElem li] at hx
        exact Option.some.inj hx
      rw [dr] at inv
      simp only [tSeq_at, tNext_at, tRet_at, tIfS_at, tAsg_at, tDrop_at, tPar_at, gName_at, gTupF_at, gCons_cons, gNil_nil, tVar_at, tC_at, tOp_at, tUn_at, tIf_at, tAnd_at, tOr_at, tNot_at, onB_bl, tAndV_at, tOrV_at, tB_at, tTest_at, tIsN_at, tNotN_at, tTruth_at, tCB_at, tCall_at, tCons_at, tNil_at, tTup_at, tLst_at, rI0_at, rI_at, rU_at, rEq_at, rNe_at, rIxF_at, rLenF_at, rInF_at, rTupleF_at, rIsi_at, tBM_at, iList_at, iTup_at, onL_at, onT_at, iRng1_at, rCatTF_at, tLc_at, tFor_eq, tYes_at, on_some, List.getElem?_cons_zero, List.getElem?_cons_succ, Option.join_some, List.set_cons_zero, List.set_cons_succ, List.nil_append, List.cons_append, List.append_nil, if_true, if_false, Bool.false_eq_true, reduceIte, Bool.not_true, Bool.not_false, Int.toNat_natCast, tupAt_tup hb]
      refine ⟨rfl, ?_⟩
      cases e with
      | none =>
        simp only [tSeq_at, tNext_at, tRet_at, tIfS_at, tAsg_at, tDrop_at, tPar_at, gName_at, gTupF_at, gCons_cons, gNil_nil, tVar_at, tC_at, tOp_at, tUn_at, tIf_at, tAnd_at, tOr_at, tNot_at, onB_bl, tAndV_at, tOrV_at, tB_at, tTest_at, tIsN_at, tNotN_at, tTruth_at, tCB_at, tCall_at, tCons_at, tNil_at, tTup_at, tLst_at, rI0_at, rI_at, rU_at, rEq_at, rNe_at, rIxF_at, rLenF_at, rInF_at, rTupleF_at, rIsi_at, tBM_at, iList_at, iTup_at, onL_at, onT_at, iRng1_at, rCatTF_at, tLc_at, tFor_eq, tYes_at, on_some, List.getElem?_cons_zero, List.getElem?_cons_succ, Option.join_some, List.set_cons_zero, List.set_cons_succ, List.nil_append, List.cons_append, List.append_nil, if_true, if_false, Bool.false_eq_true, reduceIte, Bool.not_true, Bool.not_false, Int.toNat_natCast, decide_true, endV]
        rw [inv] at k
        exact k
      | some e =>
        simp only [tSeq_at, tNext_at, tRet_at, tIfS_at, tAsg_at, tDrop_at, tPar_at, gName_at, gTupF_at, gCons_cons, gNil_nil, tVar_at, tC_at, tOp_at, tUn_at, tIf_at, tAnd_at, tOr_at, tNot_at, onB_bl, tAndV_at, tOrV_at, tB_at, tTest_at, tIsN_at, tNotN_at, tTruth_at, tCB_at, tCall_at, tCons_at, tNil_at, tTup_at, tLst_at, rI0_at, rI_at, rU_at, rEq_at, rNe_at, rIxF_at, rLenF_at, rInF_at, rTupleF_at, rIsi_at, tBM_at, iList_at, iTup_at, onL_at, onT_at, iRng1_at, rCatTF_at, tLc_at, tFor_eq, tYes_at, on_some, List.getElem?_cons_zero, List.getElem?_cons_succ, Option.join_some, List.set_cons_zero, List.set_cons_succ, List.nil_append, List.cons_append, List.append_nil, if_true, if_false, Bool.false_eq_true, reduceIte, Bool.not_true, Bool.not_false, Int.toNat_natCast, endV, endV_ne, decide_false]
        refine ⟨.int n, rfl, ?_⟩
        simp only [tSeq_at, tNext_at, tRet_at, tIfS_at, tAsg_at, tDrop_at, tPar_at, gName_at, gTupF_at, gCons_cons, gNil_nil, tVar_at, tC_at, tOp_at, tUn_at, tIf_at, tAnd_at, tOr_at, tNot_at, onB_bl, tAndV_at, tOrV_at, tB_at, tTest_at, tIsN_at, tNotN_at, tTruth_at, tCB_at, tCall_at, tCons_at, tNil_at, tTup_at, tLst_at, rI0_at, rI_at, rU_at, rEq_at, rNe_at, rIxF_at, rLenF_at, rInF_at, rTupleF_at, rIsi_at, tBM_at, iList_at, iTup_at, onL_at, onT_at, iRng1_at, rCatTF_at, tLc_at, tFor_eq, tYes_at, on_some, List.getElem?_cons_zero, List.getElem?_cons_succ, Option.join_some, List.set_cons_zero, List.set_cons_succ, List.nil_append, List.cons_append, List.append_nil, if_true, if_false, Bool.false_eq_true, reduceIte, Bool.not_true, Bool.not_false, Int.toNat_natCast]
        refine ⟨n, e - f, rfl, rfl, rfl, _, _, n + (e - f), rfl, ?_⟩
        rw [inv, sizeF, Option.map_map]
        congr 1
        funext m
        simp only [Function.comp_apply]
        omega
    · rintro σ H2 ⟨rfl, s1, s2, n, rfl, inv⟩
      rw [hl, List.drop_of_length_le (Nat.le_refl _)] at inv
      rw [inv] at k
      simp only [tSeq_at, tNext_at, tRet_at, tIfS_at, tAsg_at, tDrop_at, tPar_at, gName_at, gTupF_at, gCons_cons, gNil_nil, tVar_at, tC_at, tOp_at, tUn_at, tIf_at, tAnd_at, tOr_at, tNot_at, onB_bl, tAndV_at, tOrV_at, tB_at, tTest_at, tIsN_at, tNotN_at, tTruth_at, tCB_at, tCall_at, tCons_at, tNil_at, tTup_at, tLst_at, rI0_at, rI_at, rU_at, rEq_at, rNe_at, rIxF_at, rLenF_at, rInF_at, rTupleF_at, rIsi_at, tBM_at, iList_at, iTup_at, onL_at, onT_at, iRng1_at, rCatTF_at, tLc_at, tFor_eq, tYes_at, on_some, List.getElem?_cons_zero, List.getElem?_cons_succ, Option.join_some, List.set_cons_zero, List.set_cons_succ, List.nil_append, List.cons_append, List.append_nil, if_true, if_false, Bool.false_eq_true, reduceIte, Bool.not_true, Bool.not_false, Int.toNat_natCast]
      simpa [sizeF, endV] using k
end
end K2

namespace K2
open PySem L2
def gapsR (e : Option Int) (l : List S) : List S := match e with
  | none => []
  | some e => gapsF e l
/-! ### rows under way -/
structure Rows (H H2 : Hp) (lr : Addr) (R : List S) : Prop where
  same : Same H H2
  rows : ∃ ys, H2 lr = some (.lst ys) ∧ Reps H2 (R.map stD) ys
theorem Rows.new {H : Hp} {lr : Addr} (h : H lr = none) : Rows H (upd H lr (.lst [])) lr [] := ⟨same_upd h, [], upd_same, Reps.nil⟩
theorem Rows.len {H H2 : Hp} {lr : Addr} {R : List S} (r : Rows H H2 lr R) {ys : List V} (h : H2 lr = some (.lst ys)) : ys.length = R.length := by
  obtain ⟨zs, hz, rz⟩ := r.rows
  rw [hz] at h; cases h
  rw [rz.length, List.length_map]
theorem Rows.app {H H2 : Hp} {lr p : Addr} {R : List S} (r : Rows H H2 lr R) (hl : H lr = none) (hp : H2 p = none) (x : S) {ys : List V} (h : H2 lr = some (.lst ys)) :
    Rows H (upd (upd H2 p (.tup [.int x.1, endV x.2])) lr (.lst (ys ++ [.ref p]))) lr (R ++ [x]) := by
  obtain ⟨zs, hz, rz⟩ := r.rows
  obtain rfl : zs = ys := by rw [hz] at h; cases h; rfl
  have np : lr ≠ p := ne_of_none hz hp
  refine ⟨fun b o hb => ?_, _, upd_same, ?_⟩
  · rw [upd_ne (ne_of_none hb hl), upd_ne (ne_of_none (r.same b o hb) hp)]; exact r.same b o hb
  · rw [List.map_append]
    have sm : SameU H2 (upd (upd H2 p (.tup [.int x.1, endV x.2])) lr (.lst (zs ++ [V.ref p]))) := fun b vs hb => by
      have nb : b ≠ lr := fun q => by rw [q, hz] at hb; cases hb
      rw [upd_ne nb, upd_ne (ne_of_none hb hp)]; exact hb
    exact Reps.snoc (Reps.st_mono sm rz) (Rep.st (by rw [upd_ne np.symm]; exact upd_same))
theorem Rows.tup {H H2 : Hp} {lr p : Addr} {R : List S} (r : Rows H H2 lr R) (hp : H2 p = none) {ys : List V} (h : H2 lr = some (.lst ys)) : Rep (upd H2 p (.tup ys)) (.tup (R.map stD)) (.ref p) ∧ Same H (upd H2 p (.tup ys)) := by
  obtain ⟨zs, hz, rz⟩ := r.rows
  rw [hz] at h; cases h
  exact ⟨Rep.tup upd_same (Reps.mono (same_upd hp) rz), r.same.trans (same_upd hp)⟩
/-- rows.append((..)) -/
theorem app_go {K : PySem.W.Frag} {H H2 : Hp} {lr : Addr} {R : List S} {x : S} {Q : VK} (r : Rows H H2 lr R) (hl : H lr = none) (hR : R.length ≤ 900) (k : ∀ H3, Rows H H3 lr (R ++ [x]) → Q .non H3) :
    tyV K "list" (.ref lr) H2 ∧ [V.int x.1, endV x.2].length ≤ sizeLine ∧ ∀ p, H2 p = none → rAppendF (.ref lr) [.ref p] (upd H2 p (.tup [.int x.1, endV x.2])) Q := by
  obtain ⟨ys, hy, _⟩ := r.rows
  have hyl := r.len hy
  refine ⟨.inl ⟨rfl, _, SqL.of hy⟩, by show 2 ≤ sizeLine; decide, fun p hp => ?_⟩
  have hy' : (upd H2 p (.tup [.int x.1, endV x.2])) lr = some (.lst ys) := by rw [upd_ne (ne_of_none hy hp)]; exact hy
  rw [rAppendF_of hy']
  exact ⟨small1000 (by omega), k _ (r.app hl hp x hy)⟩
/-- tuple(rows) -/
theorem tup_go {H H2 : Hp} {lr : Addr} {R : List S} {Q : VK} (r : Rows H H2 lr R) (k : ∀ v' H', Rep H' (.tup (R.map stD)) v' → Same H H' → Q v' H') :
    on (seqAt H2 (.ref lr)) fun ys => (∀ l, H2 l = none → Q (.ref l) (upd H2 l (.tup ys))) ∧ (tupAt H2 (.ref lr) = some ys → Q (.ref lr) H2) := by
  obtain ⟨ys, hy, _⟩ := r.rows
  rw [seqAt_lst hy]
  refine ⟨fun p hp => ?_, fun h => ?_⟩
  · obtain ⟨h1, h2⟩ := r.tup hp hy
    exact k _ _ h1 h2
  · simp [tupAt, hy] at h
section
variable {P : Program} {w : World} {K : PySem.W.Frag} {mg : Str → Option Value} {base : Heap}
/-! ### gaps_of -/
def spGaps : Sp := fun vs H Q _ => ∃ (l : List S) (v : V), vs = [v] ∧ Rep H (.tup (l.map stD)) v ∧ l.length ≤ 500 ∧ ∀ v' H', Rep H' (.tup ((gapsF 0 l).map stD)) v' → Same H H' → Q v' H'
theorem sc_gaps_of : FnScope ["lot", "rows", "start", "first", "end"] ["lot"] (defScope (top 11)) := ⟨rfl, rfl, rfl, by decide +kernel, rfl, by decide +kernel, by decide +kernel⟩
theorem ok_gaps (d : Def K mg "gaps_of" (top 11)) (M : Mods mg) : Cal P w K mg base "gaps_of" 1 ["lot"] spGaps := by
  refine d.ok sc_gaps_of (fun vs H Q E h => ?_) (fun _ _ _ _ _ _ us hl => match us, hl with | [_], _ => rfl) (fun f cdv A outer s H vs Q E hr h => ?_)
  · obtain ⟨l, v, rfl, _⟩ := h
    rfl
  · obtain ⟨l, v, rfl, hv, h5, k⟩ := h
    apply Exists.intro; apply And.intro
    · (conv => arg 2; whnf)
      with_reducible exact (pss_cons (ps_set (i := 1) sc_gaps_of.nd (by with_unfolding_all rfl) (by with_unfolding_all exact (Or.inl rfl)) (pe_lst pa_nil))
      (pss_cons (ps_set (i := 2) sc_gaps_of.nd (by with_unfolding_all rfl) (by with_unfolding_all exact (Or.inl rfl)) pe_int)
      (pss_cons (ps_for PassesOwn.never (by with_unfolding_all rfl) (pi_tup (pv 0)) (pg_tupF (n := 2) (by with_unfolding_all rfl) (pgs_cons (pg_name (i := 3) sc_gaps_of.nd (by with_unfolding_all rfl) (by with_unfolding_all exact (Or.inl rfl))) (pgs_cons (pg_name (i := 4) sc_gaps_of.nd (by with_unfolding_all rfl) (by with_unfolding_all exact (Or.inl rfl))) pgs_nil))) (pss_cons (ps_if (pt_cmpR op_lt (pv 2) (pv 3) (by with_unfolding_all exact (nomark _))) (pss_one (ps_expr (pe_bm PySem.F.plainAttrs_list PySem.F.slot_list_append PySem.F.type_list_append (by with_unfolding_all exact mt_appendF) (pv 1) (pa_cons (pe_tup (pa_cons (pv 2) (pa_cons (pv 3) pa_nil))) pa_nil)))) pss_nil)
      (pss_cons (ps_if (pt_cmp (pc_isN (pv 4))) (pss_one (ps_ret (pe_callTy call_tupleF (by with_unfolding_all rfl) M.tuple boot_tuple' (pa_cons (pv 1) pa_nil)))) pss_nil)
      (pss_one (ps_set (i := 2) sc_gaps_of.nd (by with_unfolding_all rfl) (by with_unfolding_all exact (Or.inl rfl)) (pv 4))))))
      (pss_cons (ps_expr (pe_bm PySem.F.plainAttrs_list PySem.F.slot_list_append PySem.F.type_list_append (by with_unfolding_all exact mt_appendF) (pv 1) (pa_cons (pe_tup (pa_cons (pv 2) (pa_cons pe_non pa_nil))) pa_nil)))
      (pss_one (ps_ret (pe_callTy call_tupleF (by with_unfolding_all rfl) M.tuple boot_tuple' (pa_cons (pv 1) pa_nil))))))))
    obtain ⟨a, vs, rfl, ha, rv⟩ := hv.tup_of
    have e0 : L2.start ["lot", "rows", "start", "first", "end"] [.ref a] = [some (.ref a), none, none, none, none] := rfl
    rw [e0]
    have hl : vs.length = l.length := by rw [rv.length, List.length_map]
    simp only [tSeq_at, tNext_at, tRet_at, tIfS_at, tAsg_at, tDrop_at, tPar_at, gName_at, gTupF_at, gCons_cons, gNil_nil, tVar_at, tC_at, tOp_at, tUn_at, tIf_at, tAnd_at, tOr_at, tNot_at, onB_bl, tAndV_at, tOrV_at, tB_at, tTest_at, tIsN_at, tNotN_at, tTruth_at, tCB_at, tCall_at, tCons_at, tNil_at, tTup_at, tLst_at, rI0_at, rI_at, rU_at, rEq_at, rNe_at, rIxF_at, rLenF_at, rInF_at, rTupleF_at, rIsi_at, tBM_at, iList_at, iTup_at, onL_at, onT_at, iRng1_at, rCatTF_at, tLc_at, tFor_eq, tYes_at, on_some, List.getElem?_cons_zero, List.getElem?_cons_succ, Option.join_some, List.set_cons_zero, List.set_cons_succ, List.nil_append, List.cons_append, List.append_nil, if_true, if_false, Bool.false_eq_true, reduceIte, Bool.not_true, Bool.not_false, Int.toNat_natCast]
    refine ⟨by decide, fun lr hlr => ?_⟩
    have nal : a ≠ lr := ne_of_none ha hlr
    refine ⟨⟨_, SqT.of (by rw [upd_ne nal]; exact ha)⟩, for_tup' (K := K) (a := a) (xs := vs) (fun i σ H2 => ∃ s1 s2 n R, σ = [some (.ref a), some (.ref lr), some (.int n), s1, s2] ∧ Rows H H2 lr R ∧ R.length ≤ i ∧ gapsF 0 l = R ++ gapsF n (l.drop i)) ⟨_, _, 0, [], rfl, Rows.new hlr, Nat.le_refl _, rfl⟩ ?_ ?_ ?_⟩
    · rintro i σ H2 _ ⟨_, _, _, _, _, r, _⟩; exact SqT.of (r.same _ _ ha)
    · rintro i v σ H2 hvi ⟨s1, s2, n, R, rfl, r, hR, inv⟩
      obtain ⟨⟨f, e⟩, b, hx, rfl, hb⟩ := Reps.st_get (Reps.mono r.same rv) hvi
      have li : i < l.length := (List.getElem?_eq_some_iff.mp hx).1
      have dr : l.drop i = (f, e) :: l.drop (i + 1) := by
        rw [List.drop_eq_getElem_cons li]
        congr 1
        rw [List.getElem?_eq_getElem li] at hx
        exact Option.some.inj hx
      rw [dr] at inv
      obtain ⟨ys, hy, _⟩ := r.rows
      have hyl := r.len hy
      simp only [tSeq_at, tNext_at, tRet_at, tIfS_at, tAsg_at, tDrop_at, tPar_at, gName_at, gTupF_at, gCons_cons, gNil_nil, tVar_at, tC_at, tOp_at, tUn_at, tIf_at, tAnd_at, tOr_at, tNot_at, onB_bl, tAndV_at, tOrV_at, tB_at, tTest_at, tIsN_at, tNotN_at, tTruth_at, tCB_at, tCall_at, tCons_at, tNil_at, tTup_at, tLst_at, rI0_at, rI_at, rU_at, rEq_at, rNe_at, rIxF_at, rLenF_at, rInF_at, rTupleF_at, rIsi_at, tBM_at, iList_at, iTup_at, onL_at, onT_at, iRng1_at, rCatTF_at, tLc_at, tFor_eq, tYes_at, on_some, List.getElem?_cons_zero, List.getElem?_cons_succ, Option.join_some, List.set_cons_zero, List.set_cons_succ, List.nil_append, List.cons_append, List.append_nil, if_true, if_false, Bool.false_eq_true, reduceIte, Bool.not_true, Bool.not_false, Int.toNat_natCast, tupAt_tup hb]
      refine ⟨rfl, ?_⟩
      have go : ∀ (H3 : Hp) (R' : List S), Rows H H3 lr R' → R'.length ≤ i + 1 → gapsF 0 l = R' ++ gapsR e (l.drop (i + 1)) →
          if decide (endV e = V.non) = true then on (seqAt H3 (V.ref lr)) fun ys => (∀ (l : Addr), H3 l = none → Q (V.ref l) (upd H3 l (HO.tup ys))) ∧ (tupAt H3 (V.ref lr) = some ys → Q (V.ref lr) H3)
          else ∃ s1 s2 n R, [some (V.ref a), some (V.ref lr), some (endV e), some (V.int f), some (endV e)] = [some (V.ref a), some (V.ref lr), some (V.int n), s1, s2] ∧ Rows H H3 lr R ∧ R.length ≤ i + 1 ∧ gapsF 0 l = R ++ gapsF n (List.drop (i + 1) l) := by
        clear hb hx inv dr
        intro H3 R' r3 l3 e3
        cases e with
        | none =>
          rw [if_pos (by simp [endV])]
          rw [gapsR, List.append_nil] at e3
          rw [e3] at k
          exact tup_go r3 k
        | some e =>
          rw [if_neg (by simp [endV])]
          exact ⟨_, _, e, R', rfl, r3, l3, e3⟩
      by_cases q : n < f
      · rw [if_pos (by simp [q])]
        refine app_go (x := (n, some f)) r hlr (by omega) fun H3 r3 => go H3 _ r3 (by simp; omega) ?_
        rw [inv, List.append_assoc]
        cases e <;> simp [gapsF, gapsR, q]
      · rw [if_neg (by simp [q])]
        refine go H2 R r (by omega) ?_
        rw [inv]
        cases e <;> simp [gapsF, gapsR, q]
    · rintro σ H2 ⟨s1, s2, n, R, rfl, r, hR, inv⟩
      rw [hl, List.drop_of_length_le (Nat.le_refl _), gapsF] at inv
      obtain ⟨ys, hy, _⟩ := r.rows
      have hyl := r.len hy
      simp only [tSeq_at, tNext_at, tRet_at, tIfS_at, tAsg_at, tDrop_at, tPar_at, gName_at, gTupF_at, gCons_cons, gNil_nil, tVar_at, tC_at, tOp_at, tUn_at, tIf_at, tAnd_at, tOr_at, tNot_at, onB_bl, tAndV_at, tOrV_at, tB_at, tTest_at, tIsN_at, tNotN_at, tTruth_at, tCB_at, tCall_at, tCons_at, tNil_at, tTup_at, tLst_at, rI0_at, rI_at, rU_at, rEq_at, rNe_at, rIxF_at, rLenF_at, rInF_at, rTupleF_at, rIsi_at, tBM_at, iList_at, iTup_at, onL_at, onT_at, iRng1_at, rCatTF_at, tLc_at, tFor_eq, tYes_at, on_some, List.getElem?_cons_zero, List.getElem?_cons_succ, Option.join_some, List.set_cons_zero, List.set_cons_succ, List.nil_append, List.cons_append, List.append_nil, if_true, if_false, Bool.false_eq_true, reduceIte, Bool.not_true, Bool.not_false, Int.toNat_natCast]
      refine app_go (x := (n, none)) r hlr (by omega) fun H3 r3 => tup_go r3 ?_
      rw [inv] at k
      exact k
/-! ### both -/
theorem scal_end (a b : Option Int) : scal (endV a) (endV b) = true := by cases a <;> cases b <;> rfl
theorem endV_inj {a b : Option Int} : endV a = endV b ↔ a = b := by cases a <;> cases b <;> simp [endV]
theorem drop_get {l : List S} {i : Nat} (h : i < l.length) : ∃ x, l[i]? = some x ∧ l.drop i = x :: l.drop (i + 1) := ⟨l[i], by simp [h], List.drop_eq_getElem_cons h⟩
def spBoth : Sp := fun vs H Q _ => ∃ (l m : List S) (v u : V), vs = [v, u] ∧ Rep H (.tup (l.map stD)) v ∧ Rep H (.tup (m.map stD)) u ∧ l.length ≤ 400 ∧ m.length ≤ 400 ∧ ∀ v' H', Rep H' (.tup ((bothF l m).map stD)) v' → Same H H' → Q v' H'
theorem sc_both : FnScope ["one", "other", "rows", "at", "beside", "left", "right", "end"] ["one", "other"] (defScope (top 7)) := ⟨rfl, rfl, rfl, by decide +kernel, rfl, by decide +kernel, by decide +kernel⟩
theorem ok_both (d : Def K mg "both" (top 7)) (M : Mods mg) (c_earlier : Cal P w K mg base "earlier_end" 1 ["one", "other"] spEarlier) (c_meets : Cal P w K mg base "meets" 2 ["one", "other"] spMeets) : Cal P w K mg base "both" 3 ["one", "other"] spBoth := by
  refine d.ok sc_both (fun vs H Q E h => ?_) (fun _ _ _ _ _ _ us hl => match us, hl with | [_, _], _ => rfl) (fun f cdv A outer s H vs Q E hr h => ?_)
  · obtain ⟨l, m, v, u, rfl, _⟩ := h
    rfl
  · obtain ⟨l, m, v, u, rfl, hv, hu', h4, h4', k⟩ := h
    apply Exists.intro; apply And.intro
    · (conv => arg 2; whnf)
      with_reducible exact (pss_cons (ps_set (i := 2) sc_both.nd (by with_unfolding_all rfl) (by with_unfolding_all exact (Or.inl rfl)) (pe_lst pa_nil))
      (pss_cons (ps_set (i := 3) sc_both.nd (by with_unfolding_all rfl) (by with_unfolding_all exact (Or.inl rfl)) pe_int)
      (pss_cons (ps_set (i := 4) sc_both.nd (by with_unfolding_all rfl) (by with_unfolding_all exact (Or.inl rfl)) pe_int)
      (pss_cons (ps_while PassesOwn.never (PW.pt (pw_and (pt_cmpR op_lt (pv 3) (pe_callB call_lenF (by with_unfolding_all rfl) M.len PySem.boot_len (pa_cons (pv 0) pa_nil)) (by with_unfolding_all exact (nomark _))) (pw_and1 (pt_cmpR op_lt (pv 4) (pe_callB call_lenF (by with_unfolding_all rfl) M.len PySem.boot_len (pa_cons (pv 1) pa_nil)) (by with_unfolding_all exact (nomark _)))))) (pss_cons (ps_par (i := 5) (j := 6) (by with_unfolding_all rfl) sc_both.nd (by with_unfolding_all rfl) (by with_unfolding_all rfl) (by decide) (by with_unfolding_all rfl) (by with_unfolding_all rfl) (pa_cons (pe_ix ix_F (pv 0) (pv 3) (by with_unfolding_all exact (fun _ _ => rfl))) (pa_cons (pe_ix ix_F (pv 1) (pv 4) (by with_unfolding_all exact (fun _ _ => rfl))) pa_nil)) (by with_unfolding_all rfl))
      (pss_cons (ps_set (i := 7) sc_both.nd (by with_unfolding_all rfl) (by with_unfolding_all exact (Or.inl rfl)) (pe_cal c_earlier (hr.mono (by decide)) (pa_cons (pe_ix ix_F (pv 5) pe_int (by with_unfolding_all exact (fun _ _ => rfl))) (pa_cons (pe_ix ix_F (pv 6) pe_int (by with_unfolding_all exact (fun _ _ => rfl))) pa_nil))))
      (pss_cons (ps_if (pt_val (pe_cal c_meets (hr.mono (by decide)) (pa_cons (pv 5) (pa_cons (pv 6) pa_nil)))) (pss_one (ps_expr (pe_bm PySem.F.plainAttrs_list PySem.F.slot_list_append PySem.F.type_list_append (by with_unfolding_all exact mt_appendF) (pv 2) (pa_cons (pe_tup (pa_cons (pe_callB (call_max2F (by with_unfolding_all rfl)) (by with_unfolding_all rfl) M.max boot_max' (pa_cons (pe_ix ix_F (pv 5) pe_int (by with_unfolding_all exact (fun _ _ => rfl))) (pa_cons (pe_ix ix_F (pv 6) pe_int (by with_unfolding_all exact (fun _ _ => rfl))) pa_nil))) (pa_cons (pv 7) pa_nil))) pa_nil)))) pss_nil)
      (pss_one (ps_if (pt_cmpR op_eq (pe_ix ix_F (pv 5) pe_int (by with_unfolding_all exact (fun _ _ => rfl))) (pv 7) (by with_unfolding_all exact (nomark _))) (pss_one (ps_aug (i := 3) sc_both.nd (by with_unfolding_all rfl) (by with_unfolding_all exact (Or.inl rfl)) pe_int ip_add)) (pss_one (ps_aug (i := 4) sc_both.nd (by with_unfolding_all rfl) (by with_unfolding_all exact (Or.inl rfl)) pe_int ip_add))))))))
      (pss_one (ps_ret (pe_callTy call_tupleF (by with_unfolding_all rfl) M.tuple boot_tuple' (pa_cons (pv 2) pa_nil))))))))
    obtain ⟨a, vs, rfl, ha, rv⟩ := hv.tup_of
    obtain ⟨b, us, rfl, hb, ru⟩ := hu'.tup_of
    have e0 : L2.start ["one", "other", "rows", "at", "beside", "left", "right", "end"] [.ref a, .ref b] = [some (.ref a), some (.ref b), none, none, none, none, none, none] := rfl
    rw [e0]
    have hl : vs.length = l.length := by rw [rv.length, List.length_map]
    have hm : us.length = m.length := by rw [ru.length, List.length_map]
    simp only [tSeq_at, tNext_at, tRet_at, tIfS_at, tAsg_at, tDrop_at, tPar_at, gName_at, gTupF_at, gCons_cons, gNil_nil, tVar_at, tC_at, tOp_at, tUn_at, tIf_at, tAnd_at, tOr_at, tNot_at, onB_bl, tAndV_at, tOrV_at, tB_at, tTest_at, tIsN_at, tNotN_at, tTruth_at, tCB_at, tCall_at, tCons_at, tNil_at, tTup_at, tLst_at, rI0_at, rI_at, rU_at, rEq_at, rNe_at, rIxF_at, rLenF_at, rInF_at, rTupleF_at, rIsi_at, tBM_at, iList_at, iTup_at, onL_at, onT_at, iRng1_at, rCatTF_at, tLc_at, tFor_eq, tYes_at, on_some, List.getElem?_cons_zero, List.getElem?_cons_succ, Option.join_some, List.set_cons_zero, List.set_cons_succ, List.nil_append, List.cons_append, List.append_nil, if_true, if_false, Bool.false_eq_true, reduceIte, Bool.not_true, Bool.not_false, Int.toNat_natCast]
    refine ⟨by decide, fun lr hlr => ?_⟩
    refine ⟨fun z σ H2 => ∃ (i j : Nat) (R : List S) (s1 s2 s3 : Option V), σ = [some (.ref a), some (.ref b), some (.ref lr), some (.int i), some (.int j), s1, s2, s3] ∧ Rows H H2 lr R ∧ i ≤ l.length ∧ j ≤ m.length ∧ R.length ≤ i + j ∧ bothF l m = R ++ bothF (l.drop i) (m.drop j) ∧ z = (l.length - i) + (m.length - j),
      ⟨_, 0, 0, [], _, _, _, rfl, Rows.new hlr, Nat.zero_le _, Nat.zero_le _, Nat.le_refl _, rfl, rfl⟩, ?_⟩
    rintro z σ H2 ⟨i, j, R, s1, s2, s3, rfl, r, hi, hj, hR, inv, rfl⟩
    have ha2 := r.same _ _ ha
    have hb2 := r.same _ _ hb
    simp only [tSeq_at, tNext_at, tRet_at, tIfS_at, tAsg_at, tDrop_at, tPar_at, gName_at, gTupF_at, gCons_cons, gNil_nil, tVar_at, tC_at, tOp_at, tUn_at, tIf_at, tAnd_at, tOr_at, tNot_at, onB_bl, tAndV_at, tOrV_at, tB_at, tTest_at, tIsN_at, tNotN_at, tTruth_at, tCB_at, tCall_at, tCons_at, tNil_at, tTup_at, tLst_at, rI0_at, rI_at, rU_at, rEq_at, rNe_at, rIxF_at, rLenF_at, rInF_at, rTupleF_at, rIsi_at, tBM_at, iList_at, iTup_at, onL_at, onT_at, iRng1_at, rCatTF_at, tLc_at, tFor_eq, tYes_at, on_some, List.getElem?_cons_zero, List.getElem?_cons_succ, Option.join_some, List.set_cons_zero, List.set_cons_succ, List.nil_append, List.cons_append, List.append_nil, if_true, if_false, Bool.false_eq_true, reduceIte, Bool.not_true, Bool.not_false, Int.toNat_natCast, seqAt_tup ha2, seqAt_tup hb2, hl, hm]
    have fin : bothF (l.drop i) (m.drop j) = [] → on (seqAt H2 (.ref lr)) fun ys => (∀ l, H2 l = none → Q (.ref l) (upd H2 l (.tup ys))) ∧ (tupAt H2 (.ref lr) = some ys → Q (.ref lr) H2) := fun e => by
      rw [e, List.append_nil] at inv
      rw [inv] at k
      exact tup_go r k
    by_cases q1 : (i : Int) < (l.length : Int)
    · by_cases q2 : (j : Int) < (m.length : Int)
      · rw [if_pos (by simp [q1]), if_pos (by simp [q2])]
        have li : i < l.length := by omega
        have lj : j < m.length := by omega
        obtain ⟨x, hx, dx⟩ := drop_get li
        obtain ⟨y, hy, dy⟩ := drop_get lj
        rw [dx, dy, bothF] at inv
        obtain ⟨v, hvi⟩ : ∃ v, vs[i]? = some v := ⟨_, List.getElem?_eq_getElem (by omega)⟩
        obtain ⟨u, huj⟩ : ∃ u, us[j]? = some u := ⟨_, List.getElem?_eq_getElem (by omega)⟩
        obtain ⟨x', p, hx', rfl, hp0⟩ := Reps.st_get rv hvi
        obtain ⟨y', o, hy', rfl, ho0⟩ := Reps.st_get ru huj
        have hp := r.same _ _ hp0
        have ho := r.same _ _ ho0
        rw [hx] at hx'; cases hx'
        rw [hy] at hy'; cases hy'
        refine ⟨fun σ' H3 => ∃ (i' j' : Nat) (R : List S) (s1 s2 s3 : Option V), σ' = [some (.ref a), some (.ref b), some (.ref lr), some (.int i'), some (.int j'), s1, s2, s3] ∧ Rows H H3 lr R ∧ i' ≤ l.length ∧ j' ≤ m.length ∧ R.length ≤ i' + j' ∧ bothF l m = R ++ bothF (l.drop i') (m.drop j') ∧ (l.length - i') + (m.length - j') < (l.length - i) + (m.length - j),
          fun σ' H3 ⟨i', j', R', s1', s2', s3', e1, e2, e3, e4, e5, e6, e7⟩ => ⟨_, e7, i', j', R', s1', s2', s3', e1, e2, e3, e4, e5, e6, rfl⟩, ?_⟩
        simp only [tSeq_at, tNext_at, tRet_at, tIfS_at, tAsg_at, tDrop_at, tPar_at, gName_at, gTupF_at, gCons_cons, gNil_nil, tVar_at, tC_at, tOp_at, tUn_at, tIf_at, tAnd_at, tOr_at, tNot_at, onB_bl, tAndV_at, tOrV_at, tB_at, tTest_at, tIsN_at, tNotN_at, tTruth_at, tCB_at, tCall_at, tCons_at, tNil_at, tTup_at, tLst_at, rI0_at, rI_at, rU_at, rEq_at, rNe_at, rIxF_at, rLenF_at, rInF_at, rTupleF_at, rIsi_at, tBM_at, iList_at, iTup_at, onL_at, onT_at, iRng1_at, rCatTF_at, tLc_at, tFor_eq, tYes_at, on_some, List.getElem?_cons_zero, List.getElem?_cons_succ, Option.join_some, List.set_cons_zero, List.set_cons_succ, List.nil_append, List.cons_append, List.append_nil, if_true, if_false, Bool.false_eq_true, reduceIte, Bool.not_true, Bool.not_false, Int.toNat_natCast, atI_nat hvi, atI_nat huj, seqAt_tup hp, seqAt_tup ho, i0, i1]
        refine ⟨x.2, y.2, rfl, x, y, _, _, rfl, Rep.st hp, Rep.st ho, ?_⟩
        -- behind the first test
        have go : ∀ (H3 : Hp) (R' : List S), Rows H H3 lr R' → R'.length ≤ i + j + 1 → bothF l m = R' ++ (if x.2 = earlier x.2 y.2 then bothF (l.drop (i + 1)) (y :: m.drop (j + 1)) else bothF (x :: l.drop (i + 1)) (m.drop (j + 1))) →
            on (seqAt H3 (V.ref p)) fun xs => on (atI xs 1) fun v_6 => scal v_6 (endV (earlier x.2 y.2)) = true ∧
              if decide (v_6 = endV (earlier x.2 y.2)) = true then tAug 3 (tC (V.int 1)) (ipI fun i j => i + j) { nx := (fun σ' H3 => ∃ (i' j' : Nat) (R : List S) (s1 s2 s3 : Option V), σ' = [some (.ref a), some (.ref b), some (.ref lr), some (.int i'), some (.int j'), s1, s2, s3] ∧ Rows H H3 lr R ∧ i' ≤ l.length ∧ j' ≤ m.length ∧ R.length ≤ i' + j' ∧ bothF l m = R ++ bothF (l.drop i') (m.drop j') ∧ (l.length - i') + (m.length - j') < (l.length - i) + (m.length - j)), rt := Q, bk := tRet (tCB rTupleF (tCons (tVar 2) tNil)) { nx := fun x H' => Q V.non H', rt := Q }, ct := (fun σ' H3 => ∃ (i' j' : Nat) (R : List S) (s1 s2 s3 : Option V), σ' = [some (.ref a), some (.ref b), some (.ref lr), some (.int i'), some (.int j'), s1, s2, s3] ∧ Rows H H3 lr R ∧ i' ≤ l.length ∧ j' ≤ m.length ∧ R.length ≤ i' + j' ∧ bothF l m = R ++ bothF (l.drop i') (m.drop j') ∧ (l.length - i') + (m.length - j') < (l.length - i) + (m.length - j)) }
                [some (V.ref a), some (V.ref b), some (V.ref lr), some (V.int ↑i), some (V.int ↑j), some (.ref p), some (.ref o), some (endV (earlier x.2 y.2))] H3
              else tAug 4 (tC (V.int 1)) (ipI fun i j => i + j) { nx := (fun σ' H3 => ∃ (i' j' : Nat) (R : List S) (s1 s2 s3 : Option V), σ' = [some (.ref a), some (.ref b), some (.ref lr), some (.int i'), some (.int j'), s1, s2, s3] ∧ Rows H H3 lr R ∧ i' ≤ l.length ∧ j' ≤ m.length ∧ R.length ≤ i' + j' ∧ bothF l m = R ++ bothF (l.drop i') (m.drop j') ∧ (l.length - i') + (m.length - j') < (l.length - i) + (m.length - j)), rt := Q, bk := tRet (tCB rTupleF (tCons (tVar 2) tNil)) { nx := fun x H' => Q V.non H', rt := Q }, ct := (fun σ' H3 => ∃ (i' j' : Nat) (R : List S) (s1 s2 s3 : Option V), σ' = [some (.ref a), some (.ref b), some (.ref lr), some (.int i'), some (.int j'), s1, s2, s3] ∧ Rows H H3 lr R ∧ i' ≤ l.length ∧ j' ≤ m.length ∧ R.length ≤ i' + j' ∧ bothF l m = R ++ bothF (l.drop i') (m.drop j') ∧ (l.length - i') + (m.length - j') < (l.length - i) + (m.length - j)) }
                [some (V.ref a), some (V.ref b), some (V.ref lr), some (V.int ↑i), some (V.int ↑j), some (.ref p), some (.ref o), some (endV (earlier x.2 y.2))] H3 := fun H3 R' r3 l3 e3 => by
          have hp3 : H3 p = some (.tup [.int x.1, endV x.2]) := r3.same _ _ hp0
          rw [seqAt_tup hp3]
          refine ⟨scal_end _ _, ?_⟩
          by_cases q : x.2 = earlier x.2 y.2
          · rw [if_pos (by simp [endV_inj, ← q])]
            rw [if_pos q, ← dy] at e3
            exact ⟨.int i, rfl, i, 1, rfl, rfl, i + 1, j, R', _, _, _, rfl, r3, li, hj, by omega, e3, by omega⟩
          · rw [if_neg (by simp [endV_inj]; exact q)]
            rw [if_neg q, ← dx] at e3
            exact ⟨.int j, rfl, j, 1, rfl, rfl, i, j + 1, R', _, _, _, rfl, r3, hi, lj, by omega, e3, by omega⟩
        cases q : meetsF x y with
        | true =>
          simp only [tSeq_at, tNext_at, tRet_at, tIfS_at, tAsg_at, tDrop_at, tPar_at, gName_at, gTupF_at, gCons_cons, gNil_nil, tVar_at, tC_at, tOp_at, tUn_at, tIf_at, tAnd_at, tOr_at, tNot_at, onB_bl, tAndV_at, tOrV_at, tB_at, tTest_at, tIsN_at, tNotN_at, tTruth_at, tCB_at, tCall_at, tCons_at, tNil_at, tTup_at, tLst_at, rI0_at, rI_at, rU_at, rEq_at, rNe_at, rIxF_at, rLenF_at, rInF_at, rTupleF_at, rIsi_at, tBM_at, iList_at, iTup_at, onL_at, onT_at, iRng1_at, rCatTF_at, tLc_at, tFor_eq, tYes_at, on_some, List.getElem?_cons_zero, List.getElem?_cons_succ, Option.join_some, List.set_cons_zero, List.set_cons_succ, List.nil_append, List.cons_append, List.append_nil, if_true, if_false, Bool.false_eq_true, reduceIte, Bool.not_true, Bool.not_false, Int.toNat_natCast, seqAt_tup hp, seqAt_tup ho, i0, i1, rMax2F_at]
          rw [q] at inv
          refine app_go (x := (maxI x.1 y.1, earlier x.2 y.2)) r hlr (by omega) fun H3 r3 => go H3 _ r3 (by simp; omega) ?_
          rw [inv, List.append_assoc]; rfl
        | false =>
          simp only [tSeq_at, tNext_at, tRet_at, tIfS_at, tAsg_at, tDrop_at, tPar_at, gName_at, gTupF_at, gCons_cons, gNil_nil, tVar_at, tC_at, tOp_at, tUn_at, tIf_at, tAnd_at, tOr_at, tNot_at, onB_bl, tAndV_at, tOrV_at, tB_at, tTest_at, tIsN_at, tNotN_at, tTruth_at, tCB_at, tCall_at, tCons_at, tNil_at, tTup_at, tLst_at, rI0_at, rI_at, rU_at, rEq_at, rNe_at, rIxF_at, rLenF_at, rInF_at, rTupleF_at, rIsi_at, tBM_at, iList_at, iTup_at, onL_at, onT_at, iRng1_at, rCatTF_at, tLc_at, tFor_eq, tYes_at, on_some, List.getElem?_cons_zero, List.getElem?_cons_succ, Option.join_some, List.set_cons_zero, List.set_cons_succ, List.nil_append, List.cons_append, List.append_nil, if_true, if_false, Bool.false_eq_true, reduceIte, Bool.not_true, Bool.not_false, Int.toNat_natCast]
          rw [q] at inv
          exact go H2 R r (by omega) (by simpa using inv)
      · rw [if_pos (by simp [q1]), if_neg (by simp [q2])]
        refine fin ?_
        rw [List.drop_of_length_le (show m.length ≤ j by omega)]
        cases l.drop i <;> rw [bothF]
    · rw [if_neg (by simp [q1])]
      refine fin ?_
      rw [List.drop_of_length_le (show l.length ≤ i by omega), bothF]
/-! ### without -/
def spWithout : Sp := fun vs H Q _ => ∃ (l m : List S) (v u : V), vs = [v, u] ∧ Rep H (.tup (l.map stD)) v ∧ Rep H (.tup (m.map stD)) u ∧ l.length ≤ 100 ∧ m.length ≤ 100 ∧ ∀ v' H', Rep H' (.tup ((bothF l (gapsF 0 m)).map stD)) v' → Same H H' → Q v' H'
theorem gaps_len : ∀ (s : Int) (l : List S), (gapsF s l).length ≤ l.length + 1
  | s, [] => by rw [gapsF]; simp
  | s, (f, none) :: l => by rw [gapsF]; split <;> simp
  | s, (f, some e) :: l => by
    rw [gapsF, List.length_append]
    have := gaps_len e l
    split <;> simp <;> omega
theorem sc_without : FnScope ["one", "other"] ["one", "other"] (defScope (top 6)) := ⟨rfl, rfl, rfl, by decide +kernel, rfl, by decide +kernel, by decide +kernel⟩
theorem ok_without (d : Def K mg "without" (top 6)) (M : Mods mg) (c_gaps : Cal P w K mg base "gaps_of" 1 ["lot"] spGaps) (c_both : Cal P w K mg base "both" 3 ["one", "other"] spBoth) : Cal P w K mg base "without" 4 ["one", "other"] spWithout := by
  refine d.ok sc_without (fun vs H Q E h => ?_) (fun _ _ _ _ _ _ us hl => match us, hl with | [_, _], _ => rfl) (fun f cdv A outer s H vs Q E hr h => ?_)
  · obtain ⟨l, m, v, u, rfl, _⟩ := h
    rfl
  · obtain ⟨l, m, v, u, rfl, hv, hu', h4, h4', k⟩ := h
    apply Exists.intro; apply And.intro
    · (conv => arg 2; whnf)
      with_reducible exact (pss_one (ps_ret (pe_cal c_both (hr.mono (by decide)) (pa_cons (pv 0) (pa_cons (pe_cal c_gaps (hr.mono (by decide)) (pa_cons (pv 1) pa_nil)) pa_nil)))))
    have e0 : L2.start ["one", "other"] [v, u] = [some v, some u] := rfl
    rw [e0]
    simp only [tSeq_at, tNext_at, tRet_at, tIfS_at, tAsg_at, tDrop_at, tPar_at, gName_at, gTupF_at, gCons_cons, gNil_nil, tVar_at, tC_at, tOp_at, tUn_at, tIf_at, tAnd_at, tOr_at, tNot_at, onB_bl, tAndV_at, tOrV_at, tB_at, tTest_at, tIsN_at, tNotN_at, tTruth_at, tCB_at, tCall_at, tCons_at, tNil_at, tTup_at, tLst_at, rI0_at, rI_at, rU_at, rEq_at, rNe_at, rIxF_at, rLenF_at, rInF_at, rTupleF_at, rIsi_at, tBM_at, iList_at, iTup_at, onL_at, onT_at, iRng1_at, rCatTF_at, tLc_at, tFor_eq, tYes_at, on_some, List.getElem?_cons_zero, List.getElem?_cons_succ, Option.join_some, List.set_cons_zero, List.set_cons_succ, List.nil_append, List.cons_append, List.append_nil, if_true, if_false, Bool.false_eq_true, reduceIte, Bool.not_true, Bool.not_false, Int.toNat_natCast]
    refine ⟨m, u, rfl, hu', by omega, fun v1 H1 r1 s1 => ?_⟩
    simp only [tSeq_at, tNext_at, tRet_at, tIfS_at, tAsg_at, tDrop_at, tPar_at, gName_at, gTupF_at, gCons_cons, gNil_nil, tVar_at, tC_at, tOp_at, tUn_at, tIf_at, tAnd_at, tOr_at, tNot_at, onB_bl, tAndV_at, tOrV_at, tB_at, tTest_at, tIsN_at, tNotN_at, tTruth_at, tCB_at, tCall_at, tCons_at, tNil_at, tTup_at, tLst_at, rI0_at, rI_at, rU_at, rEq_at, rNe_at, rIxF_at, rLenF_at, rInF_at, rTupleF_at, rIsi_at, tBM_at, iList_at, iTup_at, onL_at, onT_at, iRng1_at, rCatTF_at, tLc_at, tFor_eq, tYes_at, on_some, List.getElem?_cons_zero, List.getElem?_cons_succ, Option.join_some, List.set_cons_zero, List.set_cons_succ, List.nil_append, List.cons_append, List.append_nil, if_true, if_false, Bool.false_eq_true, reduceIte, Bool.not_true, Bool.not_false, Int.toNat_natCast]
    refine ⟨l, gapsF 0 m, v, v1, rfl, hv.mono s1, r1, by omega, by have := gaps_len 0 m; omega, fun v2 H2 r2 s2 => k _ _ r2 (s1.trans s2)⟩
end
end K2

namespace K2
open PySem L2
/-! ### sorted rows -/
def stOf (H : Hp) : V → S
  | .ref a => match H a with
    | some (.tup [.int f, .int e]) => (f, some e)
    | some (.tup [.int f, _]) => (f, none)
    | _ => (0, none)
  | _ => (0, none)
theorem stOf_rep {H : Hp} {x : S} {v : V} (h : Rep H (stD x) v) : stOf H v = x := by
  obtain ⟨a, rfl, ha⟩ := Rep.st_of h
  obtain ⟨f, e⟩ := x
  cases e <;> simp [stOf, ha, endV]
theorem Reps.stOf {H : Hp} : ∀ {l : List S} {vs : List V}, Reps H (l.map stD) vs → vs.map (K2.stOf H) = l
  | [], vs, h => by rw [h.unnil]; rfl
  | x :: l, vs, h => by
    obtain ⟨v, r, rfl, h1, h2⟩ := Reps.uncons (d := stD x) (ds := l.map stD) h
    rw [List.map_cons, stOf_rep h1, Reps.stOf h2]
theorem Reps.all {H : Hp} : ∀ {l : List S} {vs : List V}, Reps H (l.map stD) vs → ∀ v ∈ vs, Rep H (stD (K2.stOf H v)) v
  | [], vs, h => by rw [h.unnil]; intro v hv; simp at hv
  | x :: l, vs, h => by
    obtain ⟨v, r, rfl, h1, h2⟩ := Reps.uncons (d := stD x) (ds := l.map stD) h
    intro u hu
    rcases List.mem_cons.mp hu with rfl | hu
    · rw [stOf_rep h1]; exact h1
    · exact Reps.all h2 u hu
theorem Reps.of_all {H : Hp} : ∀ {ys : List V}, (∀ v ∈ ys, Rep H (stD (K2.stOf H v)) v) → Reps H ((ys.map (K2.stOf H)).map stD) ys
  | [], _ => Reps.nil
  | y :: ys, h => Reps.cons (h y List.mem_cons_self) (Reps.of_all fun v hv => h v (List.mem_cons_of_mem _ hv))
theorem zip_perm {α β : Type} (l : List α) (m : List β) (h : l.length = m.length) : (l.zip m).map Prod.snd = m := by
  rw [List.map_snd_zip]; omega
theorem sorted_st {H : Hp} {l : List S} {vs ys : List V} (rv : Reps H (l.map stD) vs) (h : KeyS (l.map Prod.fst) vs ys) : ∃ zs : List S, zs.Perm l ∧ Reps H (zs.map stD) ys ∧ zs.Pairwise fun a b => a.1 ≤ b.1 := by
  obtain ⟨ps, pm, rfl, pw⟩ := h
  have hl : vs.length = l.length := by rw [rv.length, List.length_map]
  have eS := Reps.stOf rv
  have p2 : (ps.map Prod.snd).Perm vs := by
    have := pm.map Prod.snd
    rwa [zip_perm _ _ (by rw [List.length_map, hl])] at this
  have keys : ∀ p ∈ ps, p.1 = (stOf H p.2).1 := fun p hp => by
    have hm := pm.mem_iff.mp hp
    obtain ⟨i, hi⟩ := List.mem_iff_getElem?.mp hm
    rw [List.getElem?_zip_eq_some] at hi
    obtain ⟨h1, h2⟩ := hi
    have h3 : l[i]? = some (stOf H p.2) := by rw [← eS, List.getElem?_map, h2]; rfl
    rw [List.getElem?_map, h3] at h1
    exact (Option.some.inj h1).symm
  refine ⟨(ps.map Prod.snd).map (stOf H), ?_, ?_, ?_⟩
  · have := p2.map (stOf H)
    rwa [eS] at this
  · exact Reps.of_all fun v hv => Reps.all rv v (p2.mem_iff.mp hv)
  · rw [List.pairwise_map, List.pairwise_map]
    refine pw.imp_of_mem fun {a b} ha hb hab => ?_
    rw [← keys a ha, ← keys b hb]; exact hab
theorem ix_last {n : Nat} : ixN (n + 1) (-1) = some n := by
  unfold ixN
  rw [if_neg (by decide), if_pos (by omega)]
  congr 1
  omega
theorem at_last {xs : List V} {x : V} : atI (xs ++ [x]) (-1) = some x := by
  unfold atI
  rw [List.length_append]
  show (ixN (xs.length + 1) (-1)).bind _ = _
  rw [ix_last]
  simp
theorem snoc_of {α : Type} {xs : List α} {n : Nat} (h : xs.length = n + 1) : ∃ init x, xs = init ++ [x] ∧ init.length = n := by
  rcases List.eq_nil_or_concat xs with rfl | ⟨init, x, rfl⟩
  · simp at h
  · rw [List.concat_eq_append] at h ⊢
    exact ⟨init, x, rfl, by simpa using h⟩
theorem Reps.split {H : Hp} : ∀ {ds es : List D} {vs : List V}, Reps H (ds ++ es) vs → ∃ a b, vs = a ++ b ∧ Reps H ds a ∧ Reps H es b
  | [], es, vs, h => ⟨[], vs, rfl, Reps.nil, h⟩
  | d :: ds, es, vs, h => by
    obtain ⟨v, r, rfl, h1, h2⟩ := Reps.uncons (d := d) (ds := ds ++ es) h
    obtain ⟨a, b, rfl, h3, h4⟩ := Reps.split h2
    exact ⟨v :: a, b, rfl, Reps.cons h1 h3, h4⟩
/-- rows[-1] = (..) -/
theorem Rows.last {H H2 : Hp} {lr p : Addr} {R : List S} {r : S} (w : Rows H H2 lr (R ++ [r])) (hl : H lr = none) (hp : H2 p = none) (x : S) {ys : List V} {y : V} (h : H2 lr = some (.lst (ys ++ [y]))) (hy : ys.length = R.length) :
    Rows H (upd (upd H2 p (.tup [.int x.1, endV x.2])) lr (.lst (ys ++ [.ref p]))) lr (R ++ [x]) := by
  obtain ⟨zs, hz, rz⟩ := w.rows
  rw [h] at hz
  have hz' : zs = ys ++ [y] := by cases hz; rfl
  subst hz'
  rw [List.map_append] at rz
  obtain ⟨a, b, e, ra, rb⟩ := Reps.split rz
  have ea : a = ys := by
    have la : a.length = ys.length := by rw [ra.length, List.length_map, hy]
    exact (List.append_inj_left e la.symm).symm
  subst ea
  have np : lr ≠ p := ne_of_none h hp
  refine ⟨fun b o hb => ?_, _, upd_same, ?_⟩
  · rw [upd_ne (ne_of_none hb hl), upd_ne (ne_of_none (w.same b o hb) hp)]; exact w.same b o hb
  · rw [List.map_append]
    have sm : SameU H2 (upd (upd H2 p (.tup [.int x.1, endV x.2])) lr (.lst (a ++ [V.ref p]))) := fun b vs hb => by
      have nb : b ≠ lr := fun q => by rw [q, h] at hb; cases hb
      rw [upd_ne nb, upd_ne (ne_of_none hb hp)]; exact hb
    exact Reps.snoc (Reps.st_mono sm ra) (Rep.st (by rw [upd_ne np.symm]; exact upd_same))
/-! ### lot_of -/
abbrev lamPos : Pos := ⟨23, 44, 23, 70⟩
abbrev lamQual : Str := (("lot_of" : Str) ++ ".<locals>.") ++ "<lambda>"
def SameP (T : Addr) (H H' : Hp) : Prop := ∀ b o, b ≠ T → H b = some o → H' b = some o
theorem SameP.refl (T : Addr) (H : Hp) : SameP T H H := fun _ _ _ h => h
theorem SameP.trans {T : Addr} {H H1 H2 : Hp} (a : SameP T H H1) (b : SameP T H1 H2) : SameP T H H2 := fun c o n h => b c o n (a c o n h)
theorem SameP.of {T : Addr} {H H' : Hp} (s : Same H H') : SameP T H H' := fun b o _ h => s b o h
theorem LamT.mono {H H' : Hp} {T : Addr} {lp : Pos} {q : Str} (h : LamT H T lp q) (s : Same H H') : LamT H' T lp q := by
  obtain ⟨ps, h1, h2, h3⟩ := h
  refine ⟨ps, s _ _ h1, h2, h3.imp id fun ⟨c', a, b⟩ => ⟨c', a, s _ _ b⟩⟩
section
variable {P : Program} {w : World} {K : PySem.W.Frag} {mg : Str → Option Value} {base : Heap}
def spLotOf (T : Addr) : Sp := fun vs H Q _ => ∃ (l : List S) (v : V), vs = [v] ∧ Rep H (.tup (l.map stD)) v ∧ (∀ x ∈ l, stOk x = true) ∧ l.length < 60 ∧ LamT H T lamPos lamQual ∧
  ∀ r v' H', Lot r → (∀ c, memL r c = memL l c) → r.length ≤ l.length → Rep H' (.tup (r.map stD)) v' → SameP T H H' → LamT H' T lamPos lamQual → Q v' H'
theorem ins_len (R : List S) (x : S) : (ins R x).length ≤ R.length + 1 := by
  unfold ins
  split
  · split
    · rename_i r h _
      rw [List.length_append, List.length_dropLast]; simp
    · simp
  · simp
theorem memL_perm {a b : List S} (h : a.Perm b) (c : Int) : memL a c = memL b c := by
  rw [Bool.eq_iff_iff, memL_iff, memL_iff]
  exact ⟨fun ⟨x, hx, hc⟩ => ⟨x, h.mem_iff.mp hx, hc⟩, fun ⟨x, hx, hc⟩ => ⟨x, h.mem_iff.mpr hx, hc⟩⟩
theorem fold_len : ∀ (ys rows : List S), (ys.foldl ins rows).length ≤ rows.length + ys.length
  | [], rows => Nat.le_refl _
  | y :: ys, rows => by
    have := fold_len ys (ins rows y)
    have := ins_len rows y
    simp only [List.foldl_cons, List.length_cons]
    omega
theorem sc_lot_of : FnScope ["stretches", "rows", "first", "end"] ["stretches"] (defScope (top 4)) := ⟨rfl, rfl, rfl, by decide +kernel, rfl, by decide +kernel, by decide +kernel⟩
theorem ok_lotof {c T : Addr} (d : DefC K mg "lot_of" (top 4) c) (M : Mods mg) (hL : LamK K mg c T) (hB : base.BuiltinsAt mg T) (c_reaches : Cal P w K mg base "reaches" 1 ["end", "cell"] spReaches) (c_later : Cal P w K mg base "later_end" 1 ["one", "other"] spLater) : Cal1 P w K mg base "lot_of" 3 "stretches" (spLotOf T) := by
  refine d.ok1 sc_lot_of (fun vs H Q E h => ?_) (fun _ _ _ _ _ _ us hl => match us, hl with | [_], _ => rfl) (fun _ _ _ _ _ _ _ => rfl) (fun f A outer s H vs Q E hr h => ?_)
  · obtain ⟨l, v, rfl, _⟩ := h
    rfl
  · obtain ⟨l, v, rfl, hv, ok, h60, lam, k⟩ := h
    apply Exists.intro; apply And.intro
    · (conv => arg 2; whnf)
      with_reducible exact (pss_cons (ps_set (i := 1) sc_lot_of.nd (by with_unfolding_all rfl) (by with_unfolding_all exact (Or.inl rfl)) (pe_lst pa_nil))
      (pss_cons (ps_for PassesOwn.never (by with_unfolding_all rfl) (pi_list (pe_sortK hL hB (by with_unfolding_all rfl) hr.depth M.sorted (pv 0))) (pg_tupF (n := 2) (by with_unfolding_all rfl) (pgs_cons (pg_name (i := 2) sc_lot_of.nd (by with_unfolding_all rfl) (by with_unfolding_all exact (Or.inl rfl))) (pgs_cons (pg_name (i := 3) sc_lot_of.nd (by with_unfolding_all rfl) (by with_unfolding_all exact (Or.inl rfl))) pgs_nil))) (pss_one (ps_if (PW.pt (pw_and (pt_truF (pv 1)) (pw_and1 (pt_val (pe_cal c_reaches (hr.mono (by decide)) (pa_cons (pe_ix ix_F (pe_ix ix_F (pv 1) (pe_un un_neg pe_int) (by with_unfolding_all exact (fun _ _ => rfl))) pe_int (by with_unfolding_all exact (fun _ _ => rfl))) (pa_cons (pv 2) pa_nil))))))) (pss_one (ps_asg (pe_tup (pa_cons (pe_ix ix_F (pe_ix ix_F (pv 1) (pe_un un_neg pe_int) (by with_unfolding_all exact (fun _ _ => rfl))) pe_int (by with_unfolding_all exact (fun _ _ => rfl))) (pa_cons (pe_cal c_later (hr.mono (by decide)) (pa_cons (pe_ix ix_F (pe_ix ix_F (pv 1) (pe_un un_neg pe_int) (by with_unfolding_all exact (fun _ _ => rfl))) pe_int (by with_unfolding_all exact (fun _ _ => rfl))) (pa_cons (pv 3) pa_nil))) pa_nil))) (pg_sub (pv 1) (pe_un un_neg pe_int) set_list))) (pss_one (ps_expr (pe_bm PySem.F.plainAttrs_list PySem.F.slot_list_append PySem.F.type_list_append (by with_unfolding_all exact mt_appendF) (pv 1) (pa_cons (pe_tup (pa_cons (pv 2) (pa_cons (pv 3) pa_nil))) pa_nil)))))))
      (pss_one (ps_ret (pe_callTy call_tupleF (by with_unfolding_all rfl) M.tuple boot_tuple' (pa_cons (pv 1) pa_nil))))))
    obtain ⟨a, vs, rfl, ha, rv⟩ := hv.tup_of
    have e0 : L2.start ["stretches", "rows", "first", "end"] [.ref a] = [some (.ref a), none, none, none] := rfl
    rw [e0]
    have hl : vs.length = l.length := by rw [rv.length, List.length_map]
    simp only [tSeq_at, tNext_at, tRet_at, tIfS_at, tAsg_at, tDrop_at, tPar_at, gName_at, gTupF_at, gCons_cons, gNil_nil, tVar_at, tC_at, tOp_at, tUn_at, tIf_at, tAnd_at, tOr_at, tNot_at, onB_bl, tAndV_at, tOrV_at, tB_at, tTest_at, tIsN_at, tNotN_at, tTruth_at, tCB_at, tCall_at, tCons_at, tNil_at, tTup_at, tLst_at, rI0_at, rI_at, rU_at, rEq_at, rNe_at, rIxF_at, rLenF_at, rInF_at, rTupleF_at, rIsi_at, tBM_at, iList_at, iTup_at, onL_at, onT_at, iRng1_at, rCatTF_at, tLc_at, tFor_eq, tYes_at, on_some, List.getElem?_cons_zero, List.getElem?_cons_succ, Option.join_some, List.set_cons_zero, List.set_cons_succ, List.nil_append, List.cons_append, List.append_nil, if_true, if_false, Bool.false_eq_true, reduceIte, Bool.not_true, Bool.not_false, Int.toNat_natCast]
    refine ⟨by decide, fun lr hlr => ?_⟩
    have s0 : Same H (upd H lr (.lst [])) := same_upd hlr
    have lam1 := LamT.mono lam s0
    have lamT := lam1
    obtain ⟨ps1, hT1, _⟩ := lam1
    have rv1 := Reps.mono s0 rv
    refine ⟨.ref a, rfl, a, vs, l.map Prod.fst, rfl, s0 _ _ ha, by omega, by rw [List.length_map, hl], fun i x k hx hk => ?_, lamT, fun D H2 ys hD hD2 same lam2 ks => ?_⟩
    · obtain ⟨y, b, hy, rfl, hb⟩ := Reps.st_get rv1 hx
      rw [List.getElem?_map, hy] at hk
      cases hk
      exact ⟨b, [endV y.2], rfl, hb, by simp⟩
    obtain ⟨zs, pm, rz, pw⟩ := sorted_st rv1 ks
    have zok : ∀ z ∈ zs, stOk z = true := fun z hz => ok z (pm.mem_iff.mp hz)
    have zl : zs.length = l.length := pm.length_eq
    have sU : SameU (upd H lr (.lst [])) H2 := fun b us hb => same b _ (fun z => by rw [z, hT1] at hb; cases hb) hb
    have rz2 := Reps.st_mono sU rz
    have yl : ys.length = zs.length := by rw [rz.length, List.length_map]
    have nlT : lr ≠ T := fun z => by rw [← z, upd_same] at hT1; cases hT1
    have hl2 : H2 lr = some (.lst []) := same lr _ nlT upd_same
    -- the heap of the loop, but for the rows
    generalize hHc : (fun b => if b = lr then none else H2 b : Hp) = Hc
    have c1 : Hc lr = none := by rw [← hHc]; simp
    have c2 : ∀ b, b ≠ lr → Hc b = H2 b := fun b n => by rw [← hHc]; simp [n]
    have nD : D ≠ lr := fun z => by rw [z, upd_same] at hD; cases hD
    have cD : Hc D = some (.lst ys) := by rw [c2 D nD]; exact hD2
    have start : Rows Hc H2 lr [] := ⟨fun b o hb => by
      have n : b ≠ lr := ne_of_none hb c1
      rw [c2 b n] at hb; exact hb, [], hl2, Reps.nil⟩
    have rzc : Reps Hc (zs.map stD) ys := Reps.st_mono (fun b us hb => by
      have n : b ≠ lr := fun z => by rw [z, hl2] at hb; cases hb
      rw [c2 b n]; exact hb) rz2
    simp only [tSeq_at, tNext_at, tRet_at, tIfS_at, tAsg_at, tDrop_at, tPar_at, gName_at, gTupF_at, gCons_cons, gNil_nil, tVar_at, tC_at, tOp_at, tUn_at, tIf_at, tAnd_at, tOr_at, tNot_at, onB_bl, tAndV_at, tOrV_at, tB_at, tTest_at, tIsN_at, tNotN_at, tTruth_at, tCB_at, tCall_at, tCons_at, tNil_at, tTup_at, tLst_at, rI0_at, rI_at, rU_at, rEq_at, rNe_at, rIxF_at, rLenF_at, rInF_at, rTupleF_at, rIsi_at, tBM_at, iList_at, iTup_at, onL_at, onT_at, iRng1_at, rCatTF_at, tLc_at, tFor_eq, tYes_at, on_some, List.getElem?_cons_zero, List.getElem?_cons_succ, Option.join_some, List.set_cons_zero, List.set_cons_succ, List.nil_append, List.cons_append, List.append_nil, if_true, if_false, Bool.false_eq_true, reduceIte, Bool.not_true, Bool.not_false, Int.toNat_natCast]
    refine ⟨⟨_, SqL.of hD2⟩, for_list' (K := K) (a := D) (xs := ys) (fun i σ H3 => ∃ s1 s2, σ = [some (.ref a), some (.ref lr), s1, s2] ∧ Rows Hc H3 lr ((zs.take i).foldl ins [])) ⟨_, _, rfl, start⟩ ?_ ?_ ?_⟩
    · rintro i σ H3 _ ⟨_, _, _, r⟩; exact SqL.of (r.same _ _ cD)
    · rintro i v σ H3 hvi ⟨s1, s2, rfl, r⟩
      obtain ⟨⟨f, e⟩, b, hx, rfl, hb⟩ := Reps.st_get (Reps.mono r.same rzc) hvi
      have tk : zs.take (i + 1) = zs.take i ++ [(f, e)] := by rw [List.take_add_one, hx]; rfl
      have li : i < zs.length := (List.getElem?_eq_some_iff.mp hx).1
      generalize hR : (zs.take i).foldl ins [] = R at r
      have eR : (zs.take (i + 1)).foldl ins [] = ins R (f, e) := by rw [tk, List.foldl_append, hR]; rfl
      have lR : R.length ≤ 60 := by
        have := fold_len (zs.take i) []
        rw [hR, List.length_take] at this
        simp at this
        omega
      rw [eR]
      obtain ⟨ws, hw, rw'⟩ := r.rows
      have wl := r.len hw
      simp only [tSeq_at, tNext_at, tRet_at, tIfS_at, tAsg_at, tDrop_at, tPar_at, gName_at, gTupF_at, gCons_cons, gNil_nil, tVar_at, tC_at, tOp_at, tUn_at, tIf_at, tAnd_at, tOr_at, tNot_at, onB_bl, tAndV_at, tOrV_at, tB_at, tTest_at, tIsN_at, tNotN_at, tTruth_at, tCB_at, tCall_at, tCons_at, tNil_at, tTup_at, tLst_at, rI0_at, rI_at, rU_at, rEq_at, rNe_at, rIxF_at, rLenF_at, rInF_at, rTupleF_at, rIsi_at, tBM_at, iList_at, iTup_at, onL_at, onT_at, iRng1_at, rCatTF_at, tLc_at, tFor_eq, tYes_at, on_some, List.getElem?_cons_zero, List.getElem?_cons_succ, Option.join_some, List.set_cons_zero, List.set_cons_succ, List.nil_append, List.cons_append, List.append_nil, if_true, if_false, Bool.false_eq_true, reduceIte, Bool.not_true, Bool.not_false, Int.toNat_natCast, tupAt_tup hb]
      refine ⟨rfl, ?_⟩
      have add : ins R (f, e) = R ++ [(f, e)] → tyV K "list" (V.ref lr) H3 ∧ [V.int f, endV e].length ≤ sizeLine ∧ ∀ (p : Addr), H3 p = none → rAppendF (V.ref lr) [V.ref p] (upd H3 p (HO.tup [V.int f, endV e])) fun x H1 =>
          ∃ s1 s2, [some (V.ref a), some (V.ref lr), some (V.int f), some (endV e)] = [some (V.ref a), some (V.ref lr), s1, s2] ∧ Rows Hc H1 lr (ins R (f, e)) := fun he =>
        app_go (x := (f, e)) r c1 (by omega) fun H4 r4 => ⟨_, _, rfl, by rw [he]; exact r4⟩
      rcases List.eq_nil_or_concat R with rfl | ⟨init, q, rfl⟩
      · have w0 : ws = [] := List.length_eq_zero_iff.mp wl
        subst w0
        have tf : truF H3 (.ref lr) = some false := by simp [truF, hw]
        simp only [tSeq_at, tNext_at, tRet_at, tIfS_at, tAsg_at, tDrop_at, tPar_at, gName_at, gTupF_at, gCons_cons, gNil_nil, tVar_at, tC_at, tOp_at, tUn_at, tIf_at, tAnd_at, tOr_at, tNot_at, onB_bl, tAndV_at, tOrV_at, tB_at, tTest_at, tIsN_at, tNotN_at, tTruth_at, tCB_at, tCall_at, tCons_at, tNil_at, tTup_at, tLst_at, rI0_at, rI_at, rU_at, rEq_at, rNe_at, rIxF_at, rLenF_at, rInF_at, rTupleF_at, rIsi_at, tBM_at, iList_at, iTup_at, onL_at, onT_at, iRng1_at, rCatTF_at, tLc_at, tFor_eq, tYes_at, on_some, List.getElem?_cons_zero, List.getElem?_cons_succ, Option.join_some, List.set_cons_zero, List.set_cons_succ, List.nil_append, List.cons_append, List.append_nil, if_true, if_false, Bool.false_eq_true, reduceIte, Bool.not_true, Bool.not_false, Int.toNat_natCast, tf]
        exact add rfl
      · rw [List.concat_eq_append] at *
        obtain ⟨ws0, y, rfl, wl0⟩ := snoc_of (n := init.length) (xs := ws) (by rw [wl]; simp)
        have tf : truF H3 (.ref lr) = some true := by simp [truF, hw]
        rw [List.map_append] at rw'
        obtain ⟨a1, b1, e1, ra, rb⟩ := Reps.split rw'
        have la : a1.length = ws0.length := by rw [ra.length, List.length_map, wl0]
        have eb := List.append_inj_right e1 la.symm
        subst eb
        obtain ⟨yv, _, ey, ry, rn⟩ := Reps.uncons (d := stD q) (ds := []) rb
        have := rn.unnil; subst this
        obtain rfl : y = yv := by cases ey; rfl
        obtain ⟨o, rfl, ho⟩ := Rep.st_of ry
        have hins : ins (init ++ [q]) (f, e) = if reach q.2 f then init ++ [(q.1, later q.2 e)] else (init ++ [q]) ++ [(f, e)] := by
          unfold ins
          rw [List.getLast?_append]
          simp
        simp only [tSeq_at, tNext_at, tRet_at, tIfS_at, tAsg_at, tDrop_at, tPar_at, gName_at, gTupF_at, gCons_cons, gNil_nil, tVar_at, tC_at, tOp_at, tUn_at, tIf_at, tAnd_at, tOr_at, tNot_at, onB_bl, tAndV_at, tOrV_at, tB_at, tTest_at, tIsN_at, tNotN_at, tTruth_at, tCB_at, tCall_at, tCons_at, tNil_at, tTup_at, tLst_at, rI0_at, rI_at, rU_at, rEq_at, rNe_at, rIxF_at, rLenF_at, rInF_at, rTupleF_at, rIsi_at, tBM_at, iList_at, iTup_at, onL_at, onT_at, iRng1_at, rCatTF_at, tLc_at, tFor_eq, tYes_at, on_some, List.getElem?_cons_zero, List.getElem?_cons_succ, Option.join_some, List.set_cons_zero, List.set_cons_succ, List.nil_append, List.cons_append, List.append_nil, if_true, if_false, Bool.false_eq_true, reduceIte, Bool.not_true, Bool.not_false, Int.toNat_natCast, tf, seqAt_lst hw, at_last, seqAt_tup ho, i0, i1]
        refine ⟨q.2, f, rfl, ?_⟩
        cases re : reach q.2 f with
        | false =>
          rw [re] at hins
          simp only [tSeq_at, tNext_at, tRet_at, tIfS_at, tAsg_at, tDrop_at, tPar_at, gName_at, gTupF_at, gCons_cons, gNil_nil, tVar_at, tC_at, tOp_at, tUn_at, tIf_at, tAnd_at, tOr_at, tNot_at, onB_bl, tAndV_at, tOrV_at, tB_at, tTest_at, tIsN_at, tNotN_at, tTruth_at, tCB_at, tCall_at, tCons_at, tNil_at, tTup_at, tLst_at, rI0_at, rI_at, rU_at, rEq_at, rNe_at, rIxF_at, rLenF_at, rInF_at, rTupleF_at, rIsi_at, tBM_at, iList_at, iTup_at, onL_at, onT_at, iRng1_at, rCatTF_at, tLc_at, tFor_eq, tYes_at, on_some, List.getElem?_cons_zero, List.getElem?_cons_succ, Option.join_some, List.set_cons_zero, List.set_cons_succ, List.nil_append, List.cons_append, List.append_nil, if_true, if_false, Bool.false_eq_true, reduceIte, Bool.not_true, Bool.not_false, Int.toNat_natCast]
          exact add (by rw [hins]; rfl)
        | true =>
          rw [re, if_pos rfl] at hins
          simp only [tSeq_at, tNext_at, tRet_at, tIfS_at, tAsg_at, tDrop_at, tPar_at, gName_at, gTupF_at, gCons_cons, gNil_nil, tVar_at, tC_at, tOp_at, tUn_at, tIf_at, tAnd_at, tOr_at, tNot_at, onB_bl, tAndV_at, tOrV_at, tB_at, tTest_at, tIsN_at, tNotN_at, tTruth_at, tCB_at, tCall_at, tCons_at, tNil_at, tTup_at, tLst_at, rI0_at, rI_at, rU_at, rEq_at, rNe_at, rIxF_at, rLenF_at, rInF_at, rTupleF_at, rIsi_at, tBM_at, iList_at, iTup_at, onL_at, onT_at, iRng1_at, rCatTF_at, tLc_at, tFor_eq, tYes_at, on_some, List.getElem?_cons_zero, List.getElem?_cons_succ, Option.join_some, List.set_cons_zero, List.set_cons_succ, List.nil_append, List.cons_append, List.append_nil, if_true, if_false, Bool.false_eq_true, reduceIte, Bool.not_true, Bool.not_false, Int.toNat_natCast, seqAt_lst hw, at_last, seqAt_tup ho, i0, i1]
          refine ⟨q.2, e, rfl, by show 2 ≤ sizeLine; decide, fun p hp => ?_⟩
          have np : lr ≠ p := ne_of_none hw hp
          have hw' : (upd H3 p (.tup [V.int q.1, endV (later q.2 e)])) lr = some (.lst (ws0 ++ [V.ref o])) := by rw [upd_ne np]; exact hw
          refine ⟨.ref lr, rfl, ?_⟩
          simp only [tSeq_at, tNext_at, tRet_at, tIfS_at, tAsg_at, tDrop_at, tPar_at, gName_at, gTupF_at, gCons_cons, gNil_nil, tVar_at, tC_at, tOp_at, tUn_at, tIf_at, tAnd_at, tOr_at, tNot_at, onB_bl, tAndV_at, tOrV_at, tB_at, tTest_at, tIsN_at, tNotN_at, tTruth_at, tCB_at, tCall_at, tCons_at, tNil_at, tTup_at, tLst_at, rI0_at, rI_at, rU_at, rEq_at, rNe_at, rIxF_at, rLenF_at, rInF_at, rTupleF_at, rIsi_at, tBM_at, iList_at, iTup_at, onL_at, onT_at, iRng1_at, rCatTF_at, tLc_at, tFor_eq, tYes_at, on_some, List.getElem?_cons_zero, List.getElem?_cons_succ, Option.join_some, List.set_cons_zero, List.set_cons_succ, List.nil_append, List.cons_append, List.append_nil, if_true, if_false, Bool.false_eq_true, reduceIte, Bool.not_true, Bool.not_false, Int.toNat_natCast]
          refine ⟨lr, ws0 ++ [V.ref o], -1, ws0.length, rfl, rfl, hw', by rw [List.length_append]; exact ix_last, _, _, rfl, ?_⟩
          rw [hins]
          have := Rows.last r c1 hp (q.1, later q.2 e) hw wl0
          have es : (ws0 ++ [V.ref o]).set ws0.length (V.ref p) = ws0 ++ [V.ref p] := by simp
          rw [es]
          exact this
    · rintro σ H3 ⟨s1, s2, rfl, r⟩
      rw [yl, List.take_of_length_le (Nat.le_refl _)] at r
      obtain ⟨lt, mm⟩ := fold_ins (ys := zs) Lot.nil zok pw (fun _ h => by simp at h)
      simp only [tSeq_at, tNext_at, tRet_at, tIfS_at, tAsg_at, tDrop_at, tPar_at, gName_at, gTupF_at, gCons_cons, gNil_nil, tVar_at, tC_at, tOp_at, tUn_at, tIf_at, tAnd_at, tOr_at, tNot_at, onB_bl, tAndV_at, tOrV_at, tB_at, tTest_at, tIsN_at, tNotN_at, tTruth_at, tCB_at, tCall_at, tCons_at, tNil_at, tTup_at, tLst_at, rI0_at, rI_at, rU_at, rEq_at, rNe_at, rIxF_at, rLenF_at, rInF_at, rTupleF_at, rIsi_at, tBM_at, iList_at, iTup_at, onL_at, onT_at, iRng1_at, rCatTF_at, tLc_at, tFor_eq, tYes_at, on_some, List.getElem?_cons_zero, List.getElem?_cons_succ, Option.join_some, List.set_cons_zero, List.set_cons_succ, List.nil_append, List.cons_append, List.append_nil, if_true, if_false, Bool.false_eq_true, reduceIte, Bool.not_true, Bool.not_false, Int.toNat_natCast]
      refine tup_go r fun v' H' rep sm => k _ _ _ lt (fun c => ?_) ?_ rep (fun b o n hb => ?_) ?_
      · rw [mm, memL_perm pm]; simp [memL]
      · have := fold_len zs []; simp at this; omega
      · have nb : b ≠ lr := ne_of_none hb hlr
        exact sm b o (by rw [c2 b nb]; exact same b o n (by rw [upd_ne nb]; exact hb))
      · have lc : LamT Hc T lamPos lamQual := by
          obtain ⟨ps, h1, h2, h3⟩ := lam2
          refine ⟨ps, by rw [c2 T nlT.symm]; exact h1, h2, h3.imp id fun ⟨c', e1, e2⟩ => ⟨c', e1, ?_⟩⟩
          rw [c2 c' fun z => by rw [z, hl2] at e2; cases e2]; exact e2
        exact LamT.mono lc sm
end
end K2

namespace K2
open PySem L2
def okS (x : S) : Prop := 0 ≤ x.1 ∧ x.1 ≤ 10 ∧ ∀ e, x.2 = some e → x.1 < e ∧ e ≤ 12
/-! ### cells of rows -/
def cellsOf (l : List S) : List Int := l.flatMap cover
theorem cover_in {x : S} (h : okS x) : ∀ c ∈ cover x, 0 ≤ c ∧ c ≤ 12 := by
  obtain ⟨f, e⟩ := x
  obtain ⟨h1, h2, h3⟩ := h
  intro c hc
  unfold cover at hc
  obtain ⟨k, hk, rfl⟩ := List.mem_map.mp hc
  have hk := List.mem_range.mp hk
  cases e with
  | none => simp [topEnd] at hk h1 h2 ⊢; omega
  | some e =>
    have := h3 e rfl
    simp [topEnd] at hk h1 h2 this ⊢; omega
theorem cover_len {x : S} (h : okS x) : (cover x).length ≤ 13 := by
  obtain ⟨f, e⟩ := x
  obtain ⟨h1, h2, h3⟩ := h
  unfold cover
  rw [List.length_map, List.length_range]
  cases e with
  | none => simp [topEnd] at h1 h2 ⊢; omega
  | some e =>
    have := h3 e rfl
    simp [topEnd] at h1 h2 this ⊢; omega
theorem cells_in {l : List S} (h : ∀ x ∈ l, okS x) : ∀ c ∈ cellsOf l, 0 ≤ c ∧ c ≤ 12 := by
  intro c hc
  obtain ⟨x, hx, hc⟩ := List.mem_flatMap.mp hc
  exact cover_in (h x hx) c hc
theorem cells_len : ∀ {l : List S}, (∀ x ∈ l, okS x) → (cellsOf l).length ≤ 13 * l.length
  | [], _ => by simp [cellsOf]
  | x :: l, h => by
    have h1 := cover_len (h x List.mem_cons_self)
    have h2 := cells_len (l := l) fun y hy => h y (List.mem_cons_of_mem _ hy)
    unfold cellsOf at h2 ⊢
    rw [List.flatMap_cons, List.length_append, List.length_cons]
    omega
theorem cells_snoc {l : List S} {i : Nat} {x : S} (h : l[i]? = some x) : cellsOf (l.take (i + 1)) = cellsOf (l.take i) ++ cover x := by
  unfold cellsOf
  rw [List.take_succ, h, List.flatMap_append]
  simp

theorem okS_st {x : S} (h : okS x) : stOk x = true := stOk_iff.mpr ⟨h.1, fun e he => (h.2.2 e he).1⟩
theorem cover_iff {x : S} {c : Int} : c ∈ cover x ↔ x.1 ≤ c ∧ c < topEnd x := by
  unfold cover
  rw [List.mem_map]
  constructor
  · rintro ⟨k, hk, rfl⟩
    have := List.mem_range.mp hk
    omega
  · rintro ⟨a, b⟩
    exact ⟨(c - x.1).toNat, List.mem_range.mpr (by omega), by omega⟩
theorem cells_iff {l : List S} {c : Int} : (cellsOf l).contains c = true ↔ ∃ x ∈ l, x.1 ≤ c ∧ c < topEnd x := by
  rw [List.contains_iff_mem]
  unfold cellsOf
  rw [List.mem_flatMap]
  exact ⟨fun ⟨x, hx, h⟩ => ⟨x, hx, cover_iff.mp h⟩, fun ⟨x, hx, h⟩ => ⟨x, hx, cover_iff.mpr h⟩⟩
theorem in_top {x : S} (h : okS x) {c : Int} (hc : c ≤ 12) : inS x c = true ↔ x.1 ≤ c ∧ c < topEnd x := by
  rw [inS_iff]
  obtain ⟨f, e⟩ := x
  cases e with
  | none => simp [topEnd]; intro _; omega
  | some e => simp [topEnd]
/-- the cells of rows, and those of their stretches -/
theorem cells_cap {l : List S} (h : ∀ x ∈ l, okS x) (c : Int) : memL l c = capM (cellsOf l).contains c := by
  unfold capM
  rw [Bool.eq_iff_iff]
  split
  · rw [memL_iff, cells_iff]
    constructor
    · rintro ⟨x, hx, hc⟩
      refine ⟨x, hx, (in_top (h x hx) (Int.le_refl _)).mp (inS_iff.mpr ⟨by have := (h x hx).2.1; omega, fun e he => ?_⟩)⟩
      have := (inS_iff.mp hc).2 e he
      have := ((h x hx).2.2 e he).2
      omega
    · rintro ⟨x, hx, a, b⟩
      refine ⟨x, hx, inS_iff.mpr ⟨by have := (h x hx).2.1; omega, fun e he => ?_⟩⟩
      have := ((h x hx).2.2 e he).2
      simp [topEnd, he] at b
      omega
  · rw [memL_iff, cells_iff]
    exact ⟨fun ⟨x, hx, hc⟩ => ⟨x, hx, (in_top (h x hx) (by omega)).mp hc⟩, fun ⟨x, hx, hc⟩ => ⟨x, hx, (in_top (h x hx) (by omega)).mpr hc⟩⟩
theorem cells_lo {cs : List Int} (h : ∀ c ∈ cs, 0 ≤ c ∧ c ≤ 12) : (∀ c, c < 0 → cs.contains c = false) ∧ ∀ c, 13 ≤ c → cs.contains c = false := by
  refine ⟨fun c hc => ?_, fun c hc => ?_⟩
  · cases q : cs.contains c with
    | false => rfl
    | true => have := h c (List.contains_iff_mem.mp q); omega
  · cases q : cs.contains c with
    | false => rfl
    | true => have := h c (List.contains_iff_mem.mp q); omega
/-- a lot with the cells of a row is its runs -/
theorem lot_runs {r : List S} {cs : List Int} (hr : Lot r) (h : ∀ c ∈ cs, 0 ≤ c ∧ c ≤ 12) (e : ∀ c, memL r c = capM cs.contains c) : r = runsF cs.contains := canon hr (cells_lo h).1 (cells_lo h).2 e
theorem capM_or {a b : List Int} (c : Int) : (capM a.contains c || capM b.contains c) = capM (a ++ b).contains c := by
  unfold capM
  split <;> simp [List.contains_eq_mem]
theorem capM_and {a b : List Int} (c : Int) : (capM a.contains c && capM b.contains c) = capM (a.filter b.contains).contains c := by
  unfold capM
  split <;> simp [List.contains_eq_mem]
theorem capM_not {a b : List Int} (c : Int) : (capM a.contains c && !capM b.contains c) = capM (a.filter fun x => !b.contains x).contains c := by
  unfold capM
  split <;> simp [List.contains_eq_mem]
/-! ### how many cells -/
theorem size_none : ∀ {r : List S}, sizeF r = none ↔ ∃ x ∈ r, x.2 = none
  | [] => by simp [sizeF]
  | (f, none) :: r => by simp [sizeF]
  | (f, some e) :: r => by
    rw [sizeF, Option.map_eq_none_iff, size_none]
    simp
theorem size_some : ∀ {r : List S}, Lot r → (∀ x ∈ r, x.2 ≠ none) → sizeF r = some ((cellsOf r).length : Int) ∧ (cellsOf r).Nodup ∧ ∀ c, c ∈ cellsOf r ↔ memL r c = true
  | [], _, _ => by simp [sizeF, cellsOf, memL]
  | (f, none) :: r, _, h => absurd rfl (h _ List.mem_cons_self)
  | (f, some e) :: r, hl, h => by
    obtain ⟨a, b, c⟩ := size_some hl.tail fun x hx => h x (List.mem_cons_of_mem _ hx)
    have ok : f < e := (stOk_iff.mp (hl.ok _ List.mem_cons_self)).2 e rfl
    have el : cellsOf ((f, some e) :: r) = cover (f, some e) ++ cellsOf r := by simp [cellsOf]
    have mc : ∀ k, k ∈ cover (f, some e) ↔ inS (f, some e) k = true := fun k => by rw [cover_iff, inS_iff]; simp [topEnd]
    refine ⟨?_, ?_, fun k => ?_⟩
    · rw [sizeF, a, el, List.length_append]
      simp only [Option.map_some, cover, List.length_map, List.length_range, topEnd]
      congr 1
      omega
    · rw [el, List.nodup_append]
      refine ⟨?_, b, fun p hp q hq z => ?_⟩
      · unfold cover
        rw [List.Nodup, List.pairwise_map]
        exact List.nodup_range.imp fun {p q} hpq z => hpq (by omega)
      · subst z
        have h1 := (inS_iff.mp ((mc p).mp hp)).2 e rfl
        obtain ⟨k, ek, lt⟩ := hl.behind ((c p).mp hq)
        cases ek
        omega
    · rw [el, List.mem_append, memL_cons, Bool.or_eq_true, mc, c]
theorem nodup_len {a b : List Int} (ha : a.Nodup) (hb : b.Nodup) (h : ∀ c, c ∈ a ↔ c ∈ b) : a.length = b.length :=
  ((List.perm_ext_iff_of_nodup ha hb).mpr h).length_eq
theorem ended : ∀ (r : List S), (∀ x ∈ r, x.2 ≠ none) → ∃ n, 13 ≤ n ∧ memL r n = false
  | [], _ => ⟨13, by omega, rfl⟩
  | (f, none) :: r, h => absurd rfl (h _ List.mem_cons_self)
  | (f, some e) :: r, h => by
    have bound : ∀ (r : List S), (∀ x ∈ r, x.2 ≠ none) → ∃ N : Int, ∀ n, N ≤ n → memL r n = false := by
      intro r
      induction r with
      | nil => intro _; exact ⟨0, fun n _ => rfl⟩
      | cons x r ih =>
        intro h
        obtain ⟨N, hN⟩ := ih fun y hy => h y (List.mem_cons_of_mem _ hy)
        obtain ⟨g, ee⟩ := x
        cases ee with
        | none => exact absurd rfl (h _ List.mem_cons_self)
        | some ee =>
          refine ⟨max N ee, fun n hn => ?_⟩
          rw [memL_cons, hN n (by omega), Bool.or_false]
          simp [inS]
          omega
    obtain ⟨N, hN⟩ := bound _ h
    exact ⟨max N 13, by omega, hN _ (by omega)⟩
/-- size_of beside the cells -/
theorem size_cells {r : List S} {cs : List Int} {n : Nat} (hr : Lot r) (h : ∀ c ∈ cs, 0 ≤ c ∧ c ≤ 12) (e : ∀ c, memL r c = capM cs.contains c) (u : Unlike cs n) : sizeF r = if cs.contains 12 then none else some (n : Int) := by
  by_cases q : ∃ x ∈ r, x.2 = none
  · obtain ⟨x, hx, hn⟩ := q
    rw [size_none.mpr ⟨x, hx, hn⟩]
    have hm : memL r (max x.1 13) = true := memL_iff.mpr ⟨x, hx, inS_iff.mpr ⟨by omega, fun k hk => by rw [hn] at hk; cases hk⟩⟩
    rw [e, capM, if_pos (by omega)] at hm
    rw [hm]; rfl
  · have al : ∀ x ∈ r, x.2 ≠ none := fun x hx z => q ⟨x, hx, z⟩
    obtain ⟨a, b, c⟩ := size_some hr al
    obtain ⟨k, hk, no⟩ := ended r al
    rw [e, capM, if_pos hk] at no
    rw [no, a]
    obtain ⟨l, nd, mem, rfl⟩ := u
    have : (cellsOf r).length = l.length := nodup_len b nd fun z => by
      rw [c, e, mem]
      unfold capM
      split
      · rw [no]
        constructor
        · intro h; cases h
        · intro hz; have := h z hz; omega
      · rw [List.contains_iff_mem]
    rw [this]; rfl
/-! ### two stretches -/
theorem meets_cells {x y : S} (hx : okS x) (hy : okS y) : meetsF x y = !((cover x).filter (cover y).contains).isEmpty := by
  cases q : meetsF x y with
  | true =>
    obtain ⟨a, b⟩ := meets_yes (okS_st hx) (okS_st hy) q
    have le : maxI x.1 y.1 ≤ 12 := by
      have := hx.2.1; have := hy.2.1
      unfold maxI; split <;> omega
    have m1 := cover_iff.mpr ((in_top hx le).mp a)
    have m2 := cover_iff.mpr ((in_top hy le).mp b)
    have : maxI x.1 y.1 ∈ (cover x).filter (cover y).contains := List.mem_filter.mpr ⟨m1, List.contains_iff_mem.mpr m2⟩
    cases z : (cover x).filter (cover y).contains with
    | nil => rw [z] at this; simp at this
    | cons _ _ => rfl
  | false =>
    have : (cover x).filter (cover y).contains = [] := by
      rw [List.filter_eq_nil_iff]
      intro c hc h2
      have h2 := List.contains_iff_mem.mp h2
      have c12 := (cover_in hx c hc).2
      have := meets_no q c
      rw [(in_top hx c12).mpr (cover_iff.mp hc), (in_top hy c12).mpr (cover_iff.mp h2)] at this
      cases this
    rw [this]; rfl
section
variable {P : Program} {w : World} {K : PySem.W.Frag} {mg : Str → Option Value} {base : Heap}
/-! ### joined -/
def spJoined (T : Addr) : Sp := fun vs H Q _ => ∃ (l m : List S) (v u : V), vs = [v, u] ∧ Rep H (.tup (l.map stD)) v ∧ Rep H (.tup (m.map stD)) u ∧ (∀ x ∈ l, stOk x = true) ∧ (∀ x ∈ m, stOk x = true) ∧ l.length < 25 ∧ m.length < 25 ∧ LamT H T lamPos lamQual ∧
  ∀ r v' H', Lot r → (∀ c, memL r c = (memL l c || memL m c)) → r.length ≤ 60 → Rep H' (.tup (r.map stD)) v' → SameP T H H' → LamT H' T lamPos lamQual → Q v' H'
theorem sc_joined : FnScope ["one", "other"] ["one", "other"] (defScope (top 5)) := ⟨rfl, rfl, rfl, by decide +kernel, rfl, by decide +kernel, by decide +kernel⟩
theorem ok_joined {T : Addr} (d : Def K mg "joined" (top 5)) (M : Mods mg) (c_lotof : Cal P w K mg base "lot_of" 3 ["stretches"] (spLotOf T)) : Cal P w K mg base "joined" 4 ["one", "other"] (spJoined T) := by
  refine d.ok sc_joined (fun vs H Q E h => ?_) (fun _ _ _ _ _ _ us hl => match us, hl with | [_, _], _ => rfl) (fun f cdv A outer s H vs Q E hr h => ?_)
  · obtain ⟨l, m, v, u, rfl, _⟩ := h
    rfl
  · obtain ⟨l, m, v, u, rfl, hv, hu', ok1, ok2, l1, l2, lam, k⟩ := h
    apply Exists.intro; apply And.intro
    · (conv => arg 2; whnf)
      with_reducible exact (pss_one (ps_ret (pe_cal c_lotof (hr.mono (by decide)) (pa_cons (pe_op op_catTF (pv 0) (pv 1)) pa_nil))))
    obtain ⟨a, vs, rfl, ha, rv⟩ := hv.tup_of
    obtain ⟨b, us, rfl, hb, ru⟩ := hu'.tup_of
    have e0 : L2.start ["one", "other"] [.ref a, .ref b] = [some (.ref a), some (.ref b)] := rfl
    rw [e0]
    have hl : vs.length = l.length := by rw [rv.length, List.length_map]
    have hm : us.length = m.length := by rw [ru.length, List.length_map]
    simp only [tSeq_at, tNext_at, tRet_at, tIfS_at, tAsg_at, tDrop_at, tPar_at, gName_at, gTupF_at, gCons_cons, gNil_nil, tVar_at, tC_at, tOp_at, tUn_at, tIf_at, tAnd_at, tOr_at, tNot_at, onB_bl, tAndV_at, tOrV_at, tB_at, tTest_at, tIsN_at, tNotN_at, tTruth_at, tCB_at, tCall_at, tCons_at, tNil_at, tTup_at, tLst_at, rI0_at, rI_at, rU_at, rEq_at, rNe_at, rIxF_at, rLenF_at, rInF_at, rTupleF_at, rIsi_at, tBM_at, iList_at, iTup_at, onL_at, onT_at, iRng1_at, rCatTF_at, tLc_at, tFor_eq, tYes_at, on_some, List.getElem?_cons_zero, List.getElem?_cons_succ, Option.join_some, List.set_cons_zero, List.set_cons_succ, List.nil_append, List.cons_append, List.append_nil, if_true, if_false, Bool.false_eq_true, reduceIte, Bool.not_true, Bool.not_false, Int.toNat_natCast, tupAt_tup ha, tupAt_tup hb]
    have ok : ∀ x ∈ l ++ m, stOk x = true := fun x hx => (List.mem_append.mp hx).elim (ok1 x) (ok2 x)
    have fin : ∀ (H1 : Hp) (z : V), Same H H1 → Rep H1 (.tup ((l ++ m).map stD)) z → spLotOf T [z] H1 Q E0 := fun H1 z sm rz =>
      ⟨l ++ m, z, rfl, rz, ok, by rw [List.length_append]; omega, LamT.mono lam sm, fun r v' H' h1 h2 h3 h4 h5 h6 => k r v' H' h1 (fun c => by rw [h2, memL_append]) (by rw [List.length_append] at h3; omega) h4 ((SameP.of sm).trans h5) h6⟩
    refine ⟨Nat.le_of_lt (small1000 (by omega)), fun z => ?_, fun z => ?_, fun p hp => ?_⟩
    · have e : l = [] := List.length_eq_zero_iff.mp (by rw [← hl, z]; rfl)
      exact fin H _ (Same.refl _) (by rw [e]; exact Rep.tup hb ru)
    · have e : m = [] := List.length_eq_zero_iff.mp (by rw [← hm, z]; rfl)
      exact fin H _ (Same.refl _) (by rw [e, List.append_nil]; exact Rep.tup ha rv)
    · refine fin _ _ (same_upd hp) (Rep.tup upd_same ?_)
      rw [List.map_append]
      exact (Reps.mono (same_upd hp) rv).append (Reps.mono (same_upd hp) ru)
/-! ### _law_all -/
def spAll : Sp := fun vs H Q _ => ∃ (l : List S) (v : V), vs = [v] ∧ Rep H (.tup (l.map stD)) v ∧ (∀ x ∈ l, okS x) ∧ l.length ≤ 30 ∧ ∀ v' H', Rep H' (.lst ((cellsOf l).map D.int)) v' → Same H H' → Q v' H'
theorem sc_law_all : FnScope ["_law_row", "_law_found", "_law_stretch"] ["_law_row"] (defScope (top 22)) := ⟨rfl, rfl, rfl, by decide +kernel, rfl, by decide +kernel, by decide +kernel⟩
theorem ok_all (d : Def K mg "_law_all" (top 22)) (M : Mods mg) (c_cover : Cal P w K mg base "_law_cover" 1 ["_law_stretch"] spCover) : Cal P w K mg base "_law_all" 2 ["_law_row"] spAll := by
  refine d.ok sc_law_all (fun vs H Q E h => ?_) (fun _ _ _ _ _ _ us hl => match us, hl with | [_], _ => rfl) (fun f cdv A outer s H vs Q E hr h => ?_)
  · obtain ⟨l, v, rfl, _⟩ := h
    rfl
  · obtain ⟨l, v, rfl, hv, ok, l30, k⟩ := h
    apply Exists.intro; apply And.intro
    · (conv => arg 2; whnf)
      with_reducible exact (pss_cons (ps_set (i := 1) sc_law_all.nd (by with_unfolding_all rfl) (by with_unfolding_all exact (Or.inl rfl)) (pe_lst pa_nil))
      (pss_cons (ps_for PassesOwn.never (by with_unfolding_all rfl) (pi_tup (pv 0)) (pg_name (i := 2) sc_law_all.nd (by with_unfolding_all rfl) (by with_unfolding_all exact (Or.inl rfl))) (pss_one (ps_set (i := 1) sc_law_all.nd (by with_unfolding_all rfl) (by with_unfolding_all exact (Or.inl rfl)) (pe_op op_catF (pv 1) (pe_cal c_cover (hr.mono (by decide)) (pa_cons (pv 2) pa_nil))))))
      (pss_one (ps_ret (pv 1)))))
    obtain ⟨a, vs, rfl, ha, rv⟩ := hv.tup_of
    have e0 : L2.start ["_law_row", "_law_found", "_law_stretch"] [.ref a] = [some (.ref a), none, none] := rfl
    rw [e0]
    have hl : vs.length = l.length := by rw [rv.length, List.length_map]
    simp only [tSeq_at, tNext_at, tRet_at, tIfS_at, tAsg_at, tDrop_at, tPar_at, gName_at, gTupF_at, gCons_cons, gNil_nil, tVar_at, tC_at, tOp_at, tUn_at, tIf_at, tAnd_at, tOr_at, tNot_at, onB_bl, tAndV_at, tOrV_at, tB_at, tTest_at, tIsN_at, tNotN_at, tTruth_at, tCB_at, tCall_at, tCons_at, tNil_at, tTup_at, tLst_at, rI0_at, rI_at, rU_at, rEq_at, rNe_at, rIxF_at, rLenF_at, rInF_at, rTupleF_at, rIsi_at, tBM_at, iList_at, iTup_at, onL_at, onT_at, iRng1_at, rCatTF_at, tLc_at, tFor_eq, tYes_at, on_some, List.getElem?_cons_zero, List.getElem?_cons_succ, Option.join_some, List.set_cons_zero, List.set_cons_succ, List.nil_append, List.cons_append, List.append_nil, if_true, if_false, Bool.false_eq_true, reduceIte, Bool.not_true, Bool.not_false, Int.toNat_natCast]
    refine ⟨by decide, fun p0 hp0 => ?_⟩
    have sm0 : Same H (upd H p0 (.lst [])) := same_upd hp0
    refine ⟨⟨_, SqT.of (sm0 _ _ ha)⟩, for_tup' (K := K) (a := a) (xs := vs) (fun i σ H2 => Same H H2 ∧ ∃ b s1, σ = [some (.ref a), some (.ref b), s1] ∧ H2 b = some (.lst ((cellsOf (l.take i)).map V.int))) ⟨sm0, p0, _, rfl, by simp [cellsOf, upd_same]⟩ ?_ ?_ ?_⟩
    · rintro i σ H2 _ ⟨sm, _⟩; exact SqT.of (sm _ _ ha)
    · rintro i v σ H2 hvi ⟨sm, b, s1, rfl, hb⟩
      obtain ⟨x, q, hx, rfl, hq⟩ := Reps.st_get (Reps.mono sm rv) hvi
      have okx := ok x (List.mem_of_getElem? hx)
      simp only [tSeq_at, tNext_at, tRet_at, tIfS_at, tAsg_at, tDrop_at, tPar_at, gName_at, gTupF_at, gCons_cons, gNil_nil, tVar_at, tC_at, tOp_at, tUn_at, tIf_at, tAnd_at, tOr_at, tNot_at, onB_bl, tAndV_at, tOrV_at, tB_at, tTest_at, tIsN_at, tNotN_at, tTruth_at, tCB_at, tCall_at, tCons_at, tNil_at, tTup_at, tLst_at, rI0_at, rI_at, rU_at, rEq_at, rNe_at, rIxF_at, rLenF_at, rInF_at, rTupleF_at, rIsi_at, tBM_at, iList_at, iTup_at, onL_at, onT_at, iRng1_at, rCatTF_at, tLc_at, tFor_eq, tYes_at, on_some, List.getElem?_cons_zero, List.getElem?_cons_succ, Option.join_some, List.set_cons_zero, List.set_cons_succ, List.nil_append, List.cons_append, List.append_nil, if_true, if_false, Bool.false_eq_true, reduceIte, Bool.not_true, Bool.not_false, Int.toNat_natCast]
      have tb : 0 ≤ topEnd x ∧ topEnd x ≤ 1000 := by
        obtain ⟨f, e⟩ := x
        obtain ⟨h1, h2, h3⟩ := okx
        cases e with
        | none => simp [topEnd]
        | some e => have := h3 e rfl; simp [topEnd] at h1 h2 this ⊢; omega
      refine ⟨x, _, rfl, Rep.st hq, okx.1, by have := okx.2.1; omega, tb.1, tb.2, fun v' H3 r3 s3 => ?_⟩
      obtain ⟨b2, ws, rfl, hb2, rw2⟩ := r3.lst_of
      have := rw2.ints_of; subst this
      show rCatF (V.ref b) (V.ref b2) H3 _
      have l1 := cells_len (l := l.take i) fun x hx => ok x (List.mem_of_mem_take hx)
      have l2 := cover_len okx
      have l3 : (l.take i).length ≤ 30 := by rw [List.length_take]; omega
      rw [rCatF_of (s3 _ _ hb) hb2]
      refine ⟨Nat.le_of_lt (small1000 (by rw [List.length_map, List.length_map]; omega)), fun p hp => ⟨(sm.trans s3).trans (same_upd hp), p, _, rfl, ?_⟩⟩
      rw [upd_same, cells_snoc hx, List.map_append]
    · rintro σ H2 ⟨sm, b, s1, rfl, hb⟩
      rw [hl, List.take_of_length_le (Nat.le_refl _)] at hb
      simp only [tSeq_at, tNext_at, tRet_at, tIfS_at, tAsg_at, tDrop_at, tPar_at, gName_at, gTupF_at, gCons_cons, gNil_nil, tVar_at, tC_at, tOp_at, tUn_at, tIf_at, tAnd_at, tOr_at, tNot_at, onB_bl, tAndV_at, tOrV_at, tB_at, tTest_at, tIsN_at, tNotN_at, tTruth_at, tCB_at, tCall_at, tCons_at, tNil_at, tTup_at, tLst_at, rI0_at, rI_at, rU_at, rEq_at, rNe_at, rIxF_at, rLenF_at, rInF_at, rTupleF_at, rIsi_at, tBM_at, iList_at, iTup_at, onL_at, onT_at, iRng1_at, rCatTF_at, tLc_at, tFor_eq, tYes_at, on_some, List.getElem?_cons_zero, List.getElem?_cons_succ, Option.join_some, List.set_cons_zero, List.set_cons_succ, List.nil_append, List.cons_append, List.append_nil, if_true, if_false, Bool.false_eq_true, reduceIte, Bool.not_true, Bool.not_false, Int.toNat_natCast]
      exact k _ _ (Rep.lst hb (Reps.ints _)) sm
end
end K2

namespace K2
open PySem L2
/-! ### what stays but for tables -/
def isTb : HO → Bool
  | .tbl _ => true
  | _ => false
def SameQ (H H' : Hp) : Prop := ∀ b o, H b = some o → isTb o = false → H' b = some o
theorem SameP.q {T : Addr} {H H' : Hp} (s : SameP T H H') (l : LamT H T lamPos lamQual) : SameQ H H' := fun b o h n => s b o (fun z => by
  obtain ⟨ps, hp, _⟩ := l
  rw [z, hp] at h
  cases h
  cases n) h
mutual
theorem Rep.monoQ {H H' : Hp} (k : SameQ H H') : ∀ {d : D} {v : V}, Rep H d v → Rep H' d v
  | .non, _, h => by simpa [Rep] using h
  | .bl _, _, h => by simpa [Rep] using h
  | .int _, _, h => by simpa [Rep] using h
  | .str _, _, h => by simpa [Rep] using h
  | .tup ds, v, h => by
    obtain ⟨a, vs, e, ha, r⟩ := h.tup_of
    rw [e]
    exact Rep.tup (k _ _ ha rfl) (Reps.monoQ k r)
  | .lst ds, v, h => by
    obtain ⟨a, vs, e, ha, r⟩ := h.lst_of
    rw [e]
    exact Rep.lst (k _ _ ha rfl) (Reps.monoQ k r)
theorem Reps.monoQ {H H' : Hp} (k : SameQ H H') : ∀ {ds : List D} {vs : List V}, Reps H ds vs → Reps H' ds vs
  | [], vs, h => by rw [h.unnil]; exact Reps.nil
  | d :: ds, vs, h => by
    obtain ⟨v, r, e, h1, h2⟩ := h.uncons
    rw [e]
    exact Reps.cons (Rep.monoQ k h1) (Reps.monoQ k h2)
end
/-- what the law has all the time -/
structure G1 (K : PySem.W.Frag) (a t r T : Addr) (ns : List Int) (H : Hp) : Prop where
  sq : SqL K H a (List.map V.int ns)
  tw : Town H t r
  lam : LamT H T lamPos lamQual
theorem G1.mono {K : PySem.W.Frag} {a t r T : Addr} {ns : List Int} {H H' : Hp} (g : G1 K a t r T ns H) (s : Same H H') : G1 K a t r T ns H' := ⟨(SameT.of s).sq g.sq, g.tw.mono s, LamT.mono g.lam s⟩
theorem G1.monoT {K : PySem.W.Frag} {a t r T : Addr} {ns : List Int} {H H' : Hp} (g : G1 K a t r T ns H) (s : SameT H H') (tw : Town H' t r) : G1 K a t r T ns H' := by
  refine ⟨s.sq g.sq, tw, ?_⟩
  obtain ⟨ps, h1, h2, h3⟩ := g.lam
  exact ⟨ps, s _ _ h1 rfl, h2, h3.imp id fun ⟨c', e1, e2⟩ => ⟨c', e1, s _ _ e2 rfl⟩⟩
theorem G1.monoP {K : PySem.W.Frag} {a t r T : Addr} {ns : List Int} {H H' : Hp} (g : G1 K a t r T ns H) (s : SameP T H H') (l : LamT H' T lamPos lamQual) : G1 K a t r T ns H' := by
  have q := s.q g.lam
  refine ⟨?_, ?_, l⟩
  · rcases g.sq with (h | ⟨o, h⟩) | h
    · exact .inl (.inl (q _ _ h rfl))
    · exact .inl (.inr ⟨o, q _ _ h rfl⟩)
    · exact .inr h
  · obtain ⟨ne, ⟨c, h1⟩, kvs, h2, h3⟩ := g.tw
    exact ⟨ne, ⟨c, q _ _ h1 rfl⟩, kvs, q _ _ h2 rfl, h3⟩
def rowD (l : List S) : D := .tup (l.map stD)
theorem st_dep (x : S) : dep (stD x) ≤ 5 := by
  obtain ⟨f, e⟩ := x
  cases e <;> simp [stD, endD, dep, deps]
theorem deps_le : ∀ {ds : List D} {n : Nat}, (∀ d ∈ ds, dep d ≤ n) → deps ds ≤ n
  | [], n, _ => by simp [deps]
  | d :: ds, n, h => by
    rw [deps]
    exact Nat.max_le.mpr ⟨h d List.mem_cons_self, deps_le fun e he => h e (List.mem_cons_of_mem _ he)⟩
theorem row_dep (R : List S) : dep (rowD R) ≤ 50 := by
  show dep (.tup (R.map stD)) ≤ 50
  rw [dep]
  have := deps_le (ds := R.map stD) (n := 5) fun d hd => by
    obtain ⟨x, _, rfl⟩ := List.mem_map.mp hd
    exact st_dep x
  omega
/-- a lot beside tuple(..) of its runs: they are no unlike ones -/
theorem eq_runs {H : Hp} {x v : V} {R : List S} {Q : VK} (hx : Rep H (rowD R) x) (hv : Rep H (.lst (R.map stD)) v) (k : ∀ H', Same H H' → Q (.bl false) H') :
    on (seqAt H v) fun ys => (∀ l, H l = none → rEqD true x (.ref l) (upd H l (.tup ys)) Q) ∧ (tupAt H v = some ys → rEqD true x v H Q) := by
  obtain ⟨b, ys, rfl, hb, ry⟩ := hv.lst_of
  rw [seqAt_lst hb]
  refine ⟨fun p hp => ⟨rowD R, rowD R, hx.mono (same_upd hp), Rep.tup upd_same (ry.mono (same_upd hp)), rfl, rfl, row_dep R, ?_⟩, fun h => by simp [tupAt, hb] at h⟩
  rw [eqD_self]
  exact k _ (same_upd hp)
theorem ints_dep (l : List Int) : dep (.lst (l.map D.int)) ≤ 50 := by
  rw [dep]
  have := deps_le (ds := l.map D.int) (n := 5) fun d hd => by
    obtain ⟨x, _, rfl⟩ := List.mem_map.mp hd
    simp [dep]
  omega
theorem eqD_nil (l : List Int) : eqD (.lst (l.map D.int)) (.lst []) = l.isEmpty := by
  cases l with
  | nil => rw [List.map_nil, eqD_self]; rfl
  | cons x l => simp [eqD, eqDs]
/-- the cells of the one list that are, or are not, in the other -/
theorem lc_cells {K : PySem.W.Frag} {pc b0 b1 : Addr} {cs0 cs1 : List Int} {H : Hp} {σ : St} {Q : VK} (neg : Bool) (hσ : σ[3]? = some (some (.ref pc))) (hc : H pc = some (.lst [.ref b0, .ref b1])) (h0 : H b0 = some (.lst (cs0.map V.int))) (h1 : H b1 = some (.lst (cs1.map V.int))) (hl : cs0.length ≤ 900)
    (k : ∀ p, H p = none → Q (.ref p) (upd H p (.lst ((cs0.filter fun c => if neg then !cs1.contains c else cs1.contains c).map V.int)))) :
    LcK [none, some 3] (Itl K b0) (gName 0) (tTest (tOp (rInF neg) (tVar 0) (tOp rIxF (tVar 1) (tC (V.int 1))))) (tVar 0) σ Q H := by
  have el : lcσ [none, some 3] σ = [none, some (.ref pc)] := by simp [lcσ, hσ]
  refine lc_list (K := K) (a := b0) (xs := cs0.map V.int) (fun i ys H4 => H4 = H ∧ i ≤ cs0.length ∧ ys = ((cs0.take i).filter fun c => if neg then !cs1.contains c else cs1.contains c).map V.int) ?_ ⟨rfl, Nat.zero_le _, rfl⟩ ?_ ?_ ?_
  · rintro i ys H4 ⟨_, hi, rfl⟩
    refine small1000 ?_
    rw [List.length_map]
    have := List.length_filter_le (fun c => if neg then !cs1.contains c else cs1.contains c) (cs0.take i)
    rw [List.length_take] at this
    omega
  · rintro i ys H4 ⟨rfl, _⟩; exact SqL.of h0
  · rintro i x ys H4 hx ⟨rfl, hi, rfl⟩
    rw [List.getElem?_map] at hx
    cases q : cs0[i]? with
    | none => rw [q] at hx; cases hx
    | some c =>
      rw [q] at hx
      cases hx
      have li : i < cs0.length := (List.getElem?_eq_some_iff.mp q).1
      have tk : cs0.take (i + 1) = cs0.take i ++ [c] := by rw [List.take_add_one, q]; rfl
      have inC : ∀ c : Int, inV (.int c) (cs1.map V.int) = cs1.contains c := fun c => inV_ints c _
      rw [el]
      simp only [tSeq_at, tNext_at, tRet_at, tIfS_at, tAsg_at, tDrop_at, tPar_at, gName_at, gTupF_at, gCons_cons, gNil_nil, tVar_at, tC_at, tOp_at, tUn_at, tIf_at, tAnd_at, tOr_at, tNot_at, onB_bl, tAndV_at, tOrV_at, tB_at, tTest_at, tIsN_at, tNotN_at, tTruth_at, tCB_at, tCall_at, tCons_at, tNil_at, tTup_at, tLst_at, rI0_at, rI_at, rU_at, rEq_at, rNe_at, rIxF_at, rLenF_at, rInF_at, rTupleF_at, rIsi_at, tBM_at, iList_at, iTup_at, onL_at, onT_at, iRng1_at, rCatTF_at, tLc_at, tFor_eq, tYes_at, on_some, List.getElem?_cons_zero, List.getElem?_cons_succ, Option.join_some, List.set_cons_zero, List.set_cons_succ, List.nil_append, List.cons_append, List.append_nil, if_true, if_false, Bool.false_eq_true, reduceIte, Bool.not_true, Bool.not_false, Int.toNat_natCast, seqAt_lst hc, i1, seqAt_lst h1, flatV, flat_ints, inC]
      refine ⟨keep_set (σ := [none, some (V.ref pc)]) (i := 0) rfl, trivial, trivial, ?_⟩
      have fl : ((cs0.take (i + 1)).filter fun c => if neg then !cs1.contains c else cs1.contains c) = ((cs0.take i).filter fun c => if neg then !cs1.contains c else cs1.contains c) ++ (if (if neg then !cs1.contains c else cs1.contains c) then [c] else []) := by
        rw [tk, List.filter_append]
        congr 1
        rw [List.filter_cons]
        simp only [List.filter_nil]
      have len : (cs0.map V.int).length = cs0.length := List.length_map ..
      cases z : (if neg then !cs1.contains c else cs1.contains c) with
      | true =>
        rw [z] at fl
        simp only [tSeq_at, tNext_at, tRet_at, tIfS_at, tAsg_at, tDrop_at, tPar_at, gName_at, gTupF_at, gCons_cons, gNil_nil, tVar_at, tC_at, tOp_at, tUn_at, tIf_at, tAnd_at, tOr_at, tNot_at, onB_bl, tAndV_at, tOrV_at, tB_at, tTest_at, tIsN_at, tNotN_at, tTruth_at, tCB_at, tCall_at, tCons_at, tNil_at, tTup_at, tLst_at, rI0_at, rI_at, rU_at, rEq_at, rNe_at, rIxF_at, rLenF_at, rInF_at, rTupleF_at, rIsi_at, tBM_at, iList_at, iTup_at, onL_at, onT_at, iRng1_at, rCatTF_at, tLc_at, tFor_eq, tYes_at, on_some, List.getElem?_cons_zero, List.getElem?_cons_succ, Option.join_some, List.set_cons_zero, List.set_cons_succ, List.nil_append, List.cons_append, List.append_nil, if_true, if_false, Bool.false_eq_true, reduceIte, Bool.not_true, Bool.not_false, Int.toNat_natCast]
        exact LcN.of (by rw [len]; exact li) ⟨rfl, li, by rw [fl, List.map_append]; rfl⟩
      | false =>
        rw [z] at fl
        simp only [tSeq_at, tNext_at, tRet_at, tIfS_at, tAsg_at, tDrop_at, tPar_at, gName_at, gTupF_at, gCons_cons, gNil_nil, tVar_at, tC_at, tOp_at, tUn_at, tIf_at, tAnd_at, tOr_at, tNot_at, onB_bl, tAndV_at, tOrV_at, tB_at, tTest_at, tIsN_at, tNotN_at, tTruth_at, tCB_at, tCall_at, tCons_at, tNil_at, tTup_at, tLst_at, rI0_at, rI_at, rU_at, rEq_at, rNe_at, rIxF_at, rLenF_at, rInF_at, rTupleF_at, rIsi_at, tBM_at, iList_at, iTup_at, onL_at, onT_at, iRng1_at, rCatTF_at, tLc_at, tFor_eq, tYes_at, on_some, List.getElem?_cons_zero, List.getElem?_cons_succ, Option.join_some, List.set_cons_zero, List.set_cons_succ, List.nil_append, List.cons_append, List.append_nil, if_true, if_false, Bool.false_eq_true, reduceIte, Bool.not_true, Bool.not_false, Int.toNat_natCast]
        exact LcN.of (by rw [len]; exact li) ⟨rfl, li, by rw [fl]; simp⟩
  · rintro ys H4 ⟨rfl, _, rfl⟩ p hp
    rw [List.length_map, List.take_of_length_le (Nat.le_refl _)]
    exact k p hp
section
variable {P : Program} {w : World} {K : PySem.W.Frag} {mg : Str → Option Value} {base : Heap}
def spLaw (K : PySem.W.Frag) (T : Addr) : Sp := fun vs H Q _ => ∃ a ns, vs = [.ref a] ∧ SqL K H a (List.map V.int ns) ∧ ns.length ≤ 63 ∧ LamT H T lamPos lamQual ∧ ∀ H', Q (.bl true) H'
theorem sc_law : FnScope ["_law_script", "_law_town", "_law_rows", "_law_cells", "_law_lots", "_law_at", "_law_size", "_law_cell", "_law_one", "_law_other", "_law_first", "_law_second", "_law_alike"] ["_law_script"] (defScope (top 23)) := ⟨rfl, rfl, rfl, by decide +kernel, rfl, by decide +kernel, by decide +kernel⟩
abbrev lcs_lc_law_0 : Scope := ({ kind := PySem.ScopeKind.function, names := [ (PySem.Str.ofString ".0", PySem.NameKind.local), (PySem.Str.ofString "_law_j", PySem.NameKind.local), (PySem.Str.ofString "tuple", PySem.NameKind.globalImplicit), (PySem.Str.ofString "range", PySem.NameKind.globalImplicit), (PySem.Str.ofString "_law_draw", PySem.NameKind.globalImplicit), (PySem.Str.ofString "_law_script", PySem.NameKind.free), (PySem.Str.ofString "_law_town", PySem.NameKind.free)], isGenerator := false, isCoroutine := false, more := [] : PySem.Scope })
theorem lc_law_0 : LcScope (defScope (top 23)) ["_law_script", "_law_town", "_law_rows", "_law_cells", "_law_lots", "_law_at", "_law_size", "_law_cell", "_law_one", "_law_other", "_law_first", "_law_second", "_law_alike"] lcs_lc_law_0 ["_law_j", "_law_script", "_law_town"] [none, some 0, some 1] := ⟨rfl, by decide +kernel, by decide +kernel, by decide +kernel, by decide +kernel, rfl, by decide +kernel⟩
abbrev lcs_lc_law_1 : Scope := ({ kind := PySem.ScopeKind.function, names := [ (PySem.Str.ofString ".0", PySem.NameKind.local), (PySem.Str.ofString "_law_k", PySem.NameKind.local), (PySem.Str.ofString "_law_a_stretch", PySem.NameKind.globalImplicit), (PySem.Str.ofString "_law_script", PySem.NameKind.free), (PySem.Str.ofString "_law_town", PySem.NameKind.free)], isGenerator := false, isCoroutine := false, more := [] : PySem.Scope })
theorem lc_law_1 : LcScope lcs_lc_law_0 ["_law_j", "_law_script", "_law_town"] lcs_lc_law_1 ["_law_k", "_law_script", "_law_town"] [none, some 1, some 2] := ⟨rfl, by decide +kernel, by decide +kernel, by decide +kernel, by decide +kernel, rfl, by decide +kernel⟩
abbrev lcs_lc_law_2 : Scope := ({ kind := PySem.ScopeKind.function, names := [ (PySem.Str.ofString ".0", PySem.NameKind.local), (PySem.Str.ofString "_law_row", PySem.NameKind.local), (PySem.Str.ofString "_law_all", PySem.NameKind.globalImplicit)], isGenerator := false, isCoroutine := false, more := [] : PySem.Scope })
theorem lc_law_2 : LcScope (defScope (top 23)) ["_law_script", "_law_town", "_law_rows", "_law_cells", "_law_lots", "_law_at", "_law_size", "_law_cell", "_law_one", "_law_other", "_law_first", "_law_second", "_law_alike"] lcs_lc_law_2 ["_law_row"] [none] := ⟨rfl, by decide +kernel, by decide +kernel, by decide +kernel, by decide +kernel, rfl, by decide +kernel⟩
abbrev lcs_lc_law_3 : Scope := ({ kind := PySem.ScopeKind.function, names := [ (PySem.Str.ofString ".0", PySem.NameKind.local), (PySem.Str.ofString "_law_row", PySem.NameKind.local), (PySem.Str.ofString "lot_of", PySem.NameKind.globalImplicit)], isGenerator := false, isCoroutine := false, more := [] : PySem.Scope })
theorem lc_law_3 : LcScope (defScope (top 23)) ["_law_script", "_law_town", "_law_rows", "_law_cells", "_law_lots", "_law_at", "_law_size", "_law_cell", "_law_one", "_law_other", "_law_first", "_law_second", "_law_alike"] lcs_lc_law_3 ["_law_row"] [none] := ⟨rfl, by decide +kernel, by decide +kernel, by decide +kernel, by decide +kernel, rfl, by decide +kernel⟩
abbrev lcs_lc_law_4 : Scope := ({ kind := PySem.ScopeKind.function, names := [ (PySem.Str.ofString ".0", PySem.NameKind.local), (PySem.Str.ofString "_law_cell", PySem.NameKind.local), (PySem.Str.ofString "_law_cells", PySem.NameKind.free)], isGenerator := false, isCoroutine := false, more := [] : PySem.Scope })
theorem lc_law_4 : LcScope (defScope (top 23)) ["_law_script", "_law_town", "_law_rows", "_law_cells", "_law_lots", "_law_at", "_law_size", "_law_cell", "_law_one", "_law_other", "_law_first", "_law_second", "_law_alike"] lcs_lc_law_4 ["_law_cell", "_law_cells"] [none, some 3] := ⟨rfl, by decide +kernel, by decide +kernel, by decide +kernel, by decide +kernel, rfl, by decide +kernel⟩
abbrev lcs_lc_law_5 : Scope := ({ kind := PySem.ScopeKind.function, names := [ (PySem.Str.ofString ".0", PySem.NameKind.local), (PySem.Str.ofString "_law_cell", PySem.NameKind.local), (PySem.Str.ofString "_law_cells", PySem.NameKind.free)], isGenerator := false, isCoroutine := false, more := [] : PySem.Scope })
theorem lc_law_5 : LcScope (defScope (top 23)) ["_law_script", "_law_town", "_law_rows", "_law_cells", "_law_lots", "_law_at", "_law_size", "_law_cell", "_law_one", "_law_other", "_law_first", "_law_second", "_law_alike"] lcs_lc_law_5 ["_law_cell", "_law_cells"] [none, some 3] := ⟨rfl, by decide +kernel, by decide +kernel, by decide +kernel, by decide +kernel, rfl, by decide +kernel⟩
abbrev lcs_lc_law_6 : Scope := ({ kind := PySem.ScopeKind.function, names := [ (PySem.Str.ofString ".0", PySem.NameKind.local), (PySem.Str.ofString "_law_cell", PySem.NameKind.local), (PySem.Str.ofString "_law_cover", PySem.NameKind.globalImplicit), (PySem.Str.ofString "_law_second", PySem.NameKind.free)], isGenerator := false, isCoroutine := false, more := [] : PySem.Scope })
theorem lc_law_6 : LcScope (defScope (top 23)) ["_law_script", "_law_town", "_law_rows", "_law_cells", "_law_lots", "_law_at", "_law_size", "_law_cell", "_law_one", "_law_other", "_law_first", "_law_second", "_law_alike"] lcs_lc_law_6 ["_law_cell", "_law_second"] [none, some 11] := ⟨rfl, by decide +kernel, by decide +kernel, by decide +kernel, by decide +kernel, rfl, by decide +kernel⟩
theorem ok_law {f T : Addr} {fd : FuncData} (F : Fun K "law" "law" (top 23) f fd) (M : Mods mg) (c_draw : Cal P w K mg base "_law_draw" 1 ["_law_script", "_law_town", "_law_many"] (spDraw K)) (c_begun : Cal P w K mg base "_law_begun" 1 [] spBegun)
    (c_is : Cal P w K mg base "_law_is" 1 ["_law_told", "_law_due"] spIs) (c_astr : Cal P w K mg base "_law_a_stretch" 2 ["_law_script", "_law_town"] (spAStr K)) (c_cover : Cal P w K mg base "_law_cover" 1 ["_law_stretch"] spCover)
    (c_runs : Cal P w K mg base "_law_runs" 1 ["_law_cells"] spRuns) (c_all : Cal P w K mg base "_law_all" 2 ["_law_row"] spAll) (c_lot : Cal P w K mg base "is_lot" 3 ["thing"] spLot)
    (c_lotof1 : Cal1 P w K mg base "lot_of" 3 "stretches" (spLotOf T)) (c_size : Cal P w K mg base "size_of" 1 ["lot"] spSize) (c_has : Cal P w K mg base "has" 1 ["lot", "cell"] spHas) (c_joined : Cal P w K mg base "joined" 4 ["one", "other"] (spJoined T))
    (c_without : Cal P w K mg base "without" 4 ["one", "other"] spWithout) (c_both : Cal P w K mg base "both" 3 ["one", "other"] spBoth) (c_meets : Cal P w K mg base "meets" 2 ["one", "other"] spMeets) : FnOk P w K mg base CX0 5 f fd ["_law_script"] (spLaw K T) := by
  have c_lotof := c_lotof1.cal
  refine F.ok sc_law (fun vs H Q E h => ?_) (fun cdv A outer s H vs Q E hr h => ?_)
  · obtain ⟨a, ns, rfl, _⟩ := h
    rfl
  · obtain ⟨a, ns, rfl, hS, hns, lam, k⟩ := h
    have hu := hu_of hr
    apply Exists.intro; apply And.intro
    · (conv => arg 2; whnf)
      with_reducible exact (pss_cons (ps_set (i := 1) sc_law.nd (by with_unfolding_all rfl) (by with_unfolding_all exact (Or.inr rfl)) (pe_cal0 c_begun (hr.mono (by decide))))
      (pss_cons (ps_setlc (i := 2) (by with_unfolding_all rfl) sc_law.nd (by with_unfolding_all rfl) (by with_unfolding_all rfl) (by with_unfolding_all exact lc_law_0) (pi_range1 (by with_unfolding_all rfl) M.range (pa_cons pe_int pa_nil)) (fun _ _ _ _ _ => (pg_name (i := 0) lc_law_0.nd (by with_unfolding_all rfl) (by with_unfolding_all exact (Or.inl rfl)))) (fun _ _ _ _ _ => pifs_nil) (fun _ _ _ _ _ => (pe_callTy call_tupleF (by with_unfolding_all rfl) M.tuple boot_tuple' (pa_cons (pe_lc (by with_unfolding_all rfl) (by with_unfolding_all exact LcScope.re lc_law_1) (pi_range1 (by with_unfolding_all rfl) M.range (pa_cons (pe_cal c_draw (hr.mono (by decide)) (pa_cons (pv 1) (pa_cons (pv 2) (pa_cons pe_int pa_nil)))) pa_nil)) (fun _ _ _ _ _ => (pg_name (i := 0) lc_law_1.nd (by with_unfolding_all rfl) (by with_unfolding_all exact (Or.inl rfl)))) (fun _ _ _ _ _ => pifs_nil) (fun _ _ _ _ _ => (pe_cal c_astr (hr.mono (by decide)) (pa_cons (pv 1) (pa_cons (pv 2) pa_nil))))) pa_nil))))
      (pss_cons (ps_set (i := 3) sc_law.nd (by with_unfolding_all rfl) (by with_unfolding_all exact (Or.inr rfl)) (pe_lc (by with_unfolding_all rfl) (by with_unfolding_all exact lc_law_2) (pi_list (pv 2)) (fun _ _ _ _ _ => (pg_name (i := 0) lc_law_2.nd (by with_unfolding_all rfl) (by with_unfolding_all exact (Or.inl rfl)))) (fun _ _ _ _ _ => pifs_nil) (fun _ _ _ _ _ => (pe_cal c_all (hr.mono (by decide)) (pa_cons (pv 0) pa_nil)))))
      (pss_cons (ps_setlc (i := 4) (by with_unfolding_all rfl) sc_law.nd (by with_unfolding_all rfl) (by with_unfolding_all rfl) (by with_unfolding_all exact lc_law_3) (pi_list (pv 2)) (fun _ _ _ _ _ => (pg_name (i := 0) lc_law_3.nd (by with_unfolding_all rfl) (by with_unfolding_all exact (Or.inl rfl)))) (fun _ _ _ _ _ => pifs_nil) (fun _ _ _ _ _ => (pe_cal1 c_lotof1 (hr.mono (by decide)) (pv 0))))
      (pss_cons (ps_for PassesOwn.never (by with_unfolding_all rfl) (pi_tup (pe_tup (pa_cons pe_int (pa_cons pe_int pa_nil)))) (pg_name (i := 5) sc_law.nd (by with_unfolding_all rfl) (by with_unfolding_all exact (Or.inl rfl))) (pss_cons (ps_if (PW.pt (pw_or (pt_cmpR (op_neD (hu52 hr)) (pe_ix ix_F (pv 4) (pv 5) (by with_unfolding_all exact (fun _ _ => rfl))) (pe_callTy call_tupleF (by with_unfolding_all rfl) M.tuple boot_tuple' (pa_cons (pe_cal c_runs (hr.mono (by decide)) (pa_cons (pe_ix ix_F (pv 3) (pv 5) (by with_unfolding_all exact (fun _ _ => rfl))) pa_nil)) pa_nil)) (by with_unfolding_all exact (nomark _))) (pw_or1 (pt_not (pt_val (pe_cal c_lot (hr.mono (by decide)) (pa_cons (pe_ix ix_F (pv 4) (pv 5) (by with_unfolding_all exact (fun _ _ => rfl))) pa_nil))))))) (pss_one (ps_ret pe_bl)) pss_nil)
      (pss_cons (ps_set (i := 6) sc_law.nd (by with_unfolding_all rfl) (by with_unfolding_all exact (Or.inl rfl)) (pe_callB call_lenS (by with_unfolding_all rfl) M.len PySem.boot_len (pa_cons (pe_callTy (call_setF (by with_unfolding_all rfl)) (by with_unfolding_all rfl) M.set boot_set' (pa_cons (pe_ix ix_F (pv 3) (pv 5) (by with_unfolding_all exact (fun _ _ => rfl))) pa_nil)) pa_nil)))
      (pss_cons (ps_if (pt_cmpR op_ne (pe_cal c_size (hr.mono (by decide)) (pa_cons (pe_ix ix_F (pv 4) (pv 5) (by with_unfolding_all exact (fun _ _ => rfl))) pa_nil)) (pe_ifExp (pt_cmpR op_inF pe_int (pe_ix ix_F (pv 3) (pv 5) (by with_unfolding_all exact (fun _ _ => rfl))) (by with_unfolding_all rfl)) pe_non (pv 6)) (by with_unfolding_all exact (nomark _))) (pss_one (ps_ret pe_bl)) pss_nil)
      (pss_one (ps_for PassesOwn.never (by with_unfolding_all rfl) (pi_range1 (by with_unfolding_all rfl) M.range (pa_cons pe_int pa_nil)) (pg_name (i := 7) sc_law.nd (by with_unfolding_all rfl) (by with_unfolding_all exact (Or.inl rfl))) (pss_one (ps_if (pt_not (pt_val (pe_cal c_is (hr.mono (by decide)) (pa_cons (pe_cal c_has (hr.mono (by decide)) (pa_cons (pe_ix ix_F (pv 4) (pv 5) (by with_unfolding_all exact (fun _ _ => rfl))) (pa_cons (pv 7) pa_nil))) (pa_cons (pe_cmpR op_inF (pe_callB (call_min2F (by with_unfolding_all rfl)) (by with_unfolding_all rfl) M.min boot_min' (pa_cons (pv 7) (pa_cons pe_int pa_nil))) (pe_ix ix_F (pv 3) (pv 5) (by with_unfolding_all exact (fun _ _ => rfl))) (by with_unfolding_all rfl)) pa_nil))))) (pss_one (ps_ret pe_bl)) pss_nil))))))))
      (pss_cons (ps_asg (pv 4) (pg_lst2 (by with_unfolding_all rfl) (pgs_cons (pg_name (i := 8) sc_law.nd (by with_unfolding_all rfl) (by with_unfolding_all exact (Or.inl rfl))) (pgs_cons (pg_name (i := 9) sc_law.nd (by with_unfolding_all rfl) (by with_unfolding_all exact (Or.inl rfl))) pgs_nil))))
      (pss_cons (ps_if (pt_cmpR (op_neD (hu52 hr)) (pe_cal c_joined (hr.mono (by decide)) (pa_cons (pv 8) (pa_cons (pv 9) pa_nil))) (pe_callTy call_tupleF (by with_unfolding_all rfl) M.tuple boot_tuple' (pa_cons (pe_cal c_runs (hr.mono (by decide)) (pa_cons (pe_op op_catF (pe_ix ix_F (pv 3) pe_int (by with_unfolding_all exact (fun _ _ => rfl))) (pe_ix ix_F (pv 3) pe_int (by with_unfolding_all exact (fun _ _ => rfl)))) pa_nil)) pa_nil)) (by with_unfolding_all exact (nomark _))) (pss_one (ps_ret pe_bl)) pss_nil)
      (pss_cons (ps_if (pt_cmpR (op_neD (hu52 hr)) (pe_cal c_without (hr.mono (by decide)) (pa_cons (pv 8) (pa_cons (pv 9) pa_nil))) (pe_callTy call_tupleF (by with_unfolding_all rfl) M.tuple boot_tuple' (pa_cons (pe_cal c_runs (hr.mono (by decide)) (pa_cons (pe_lc (by with_unfolding_all rfl) (by with_unfolding_all exact lc_law_4) (pi_list (pe_ix ix_F (pv 3) pe_int (by with_unfolding_all exact (fun _ _ => rfl)))) (fun _ _ _ _ _ => (pg_name (i := 0) lc_law_4.nd (by with_unfolding_all rfl) (by with_unfolding_all exact (Or.inl rfl)))) (fun _ _ _ _ _ => (pifs_one (pt_cmpR op_notInF (pv 0) (pe_ix ix_F (pv 1) pe_int (by with_unfolding_all exact (fun _ _ => rfl))) (by with_unfolding_all rfl)))) (fun _ _ _ _ _ => (pv 0))) pa_nil)) pa_nil)) (by with_unfolding_all exact (nomark _))) (pss_one (ps_ret pe_bl)) pss_nil)
      (pss_cons (ps_if (pt_cmpR (op_neD (hu52 hr)) (pe_cal c_both (hr.mono (by decide)) (pa_cons (pv 8) (pa_cons (pv 9) pa_nil))) (pe_callTy call_tupleF (by with_unfolding_all rfl) M.tuple boot_tuple' (pa_cons (pe_cal c_runs (hr.mono (by decide)) (pa_cons (pe_lc (by with_unfolding_all rfl) (by with_unfolding_all exact lc_law_5) (pi_list (pe_ix ix_F (pv 3) pe_int (by with_unfolding_all exact (fun _ _ => rfl)))) (fun _ _ _ _ _ => (pg_name (i := 0) lc_law_5.nd (by with_unfolding_all rfl) (by with_unfolding_all exact (Or.inl rfl)))) (fun _ _ _ _ _ => (pifs_one (pt_cmpR op_inF (pv 0) (pe_ix ix_F (pv 1) pe_int (by with_unfolding_all exact (fun _ _ => rfl))) (by with_unfolding_all rfl)))) (fun _ _ _ _ _ => (pv 0))) pa_nil)) pa_nil)) (by with_unfolding_all exact (nomark _))) (pss_one (ps_ret pe_bl)) pss_nil)
      (pss_cons (ps_asg (pe_tup (pa_cons (pe_cal c_astr (hr.mono (by decide)) (pa_cons (pv 0) (pa_cons (pv 1) pa_nil))) (pa_cons (pe_cal c_astr (hr.mono (by decide)) (pa_cons (pv 0) (pa_cons (pv 1) pa_nil))) pa_nil))) (pg_tupF (n := 2) (by with_unfolding_all rfl) (pgs_cons (pg_name (i := 10) sc_law.nd (by with_unfolding_all rfl) (by with_unfolding_all exact (Or.inl rfl))) (pgs_cons (pg_name (i := 11) sc_law.nd (by with_unfolding_all rfl) (by with_unfolding_all exact (Or.inr rfl))) pgs_nil))))
      (pss_cons (ps_setlc (i := 12) (by with_unfolding_all rfl) sc_law.nd (by with_unfolding_all rfl) (by with_unfolding_all rfl) (by with_unfolding_all exact lc_law_6) (pi_list (pe_cal c_cover (hr.mono (by decide)) (pa_cons (pv 10) pa_nil))) (fun _ _ _ _ _ => (pg_name (i := 0) lc_law_6.nd (by with_unfolding_all rfl) (by with_unfolding_all exact (Or.inl rfl)))) (fun _ _ _ _ _ => (pifs_one (pt_cmpR op_inF (pv 0) (pe_cal c_cover (hr.mono (by decide)) (pa_cons (pv 1) pa_nil)) (by with_unfolding_all rfl)))) (fun _ _ _ _ _ => (pv 0)))
      (pss_one (ps_ret (pe_and (pe_cal c_is (hr.mono (by decide)) (pa_cons (pe_cal c_meets (hr.mono (by decide)) (pa_cons (pv 10) (pa_cons (pv 11) pa_nil))) (pa_cons (pe_cmpR (op_neD (hu52 hr)) (pv 12) (pe_lst pa_nil) (by with_unfolding_all exact (nomark _))) pa_nil))) (pe_and (pe_cmpR (op_eqD (hu52 hr)) (pe_cal c_lotof (hr.mono (by decide)) (pa_cons (pe_tup pa_nil) pa_nil)) (pe_tup pa_nil) (by with_unfolding_all exact (nomark _))) (pe_one (pe_cmpR op_eq (pe_cal c_size (hr.mono (by decide)) (pa_cons (pe_tup pa_nil) pa_nil)) pe_int (by with_unfolding_all exact (nomark _)))))))))))))))))))
    have e0 : L2.start ["_law_script", "_law_town", "_law_rows", "_law_cells", "_law_lots", "_law_at", "_law_size", "_law_cell", "_law_one", "_law_other", "_law_first", "_law_second", "_law_alike"] [.ref a] = [some (.ref a), none, none, none, none, none, none, none, none, none, none, none, none] := rfl
    rw [e0]
    simp only [tSeq_at, tAsg_at, tCall_at, tNil_at, List.nil_append]
    refine ⟨rfl, fun t r H1 T1 s1 _ _ => ?_⟩
    have g1 : G1 K a t r T ns H1 := ⟨(SameT.of s1).sq hS, T1, LamT.mono lam s1⟩
    simp only [gName_at, List.set_cons_succ, List.set_cons_zero]
    -- the rows
    rw [tSeq_at, tAsg_at]
    simp only [tNext_at, tRet_at, tIfS_at, tAsg_at, tDrop_at, tPar_at, gName_at, gTupF_at, gCons_cons, gNil_nil, tVar_at, tC_at, tOp_at, tUn_at, tIf_at, tAnd_at, tOr_at, tNot_at, onB_bl, tAndV_at, tOrV_at, tB_at, tTest_at, tIsN_at, tNotN_at, tTruth_at, tCB_at, tCall_at, tCons_at, tNil_at, tTup_at, tLst_at, rI0_at, rI_at, rU_at, rEq_at, rNe_at, rIxF_at, rLenF_at, rInF_at, rTupleF_at, rIsi_at, tBM_at, iList_at, iTup_at, onL_at, onT_at, iRng1_at, rCatTF_at, tLc_at, tFor_eq, tYes_at, on_some, List.getElem?_cons_zero, List.getElem?_cons_succ, Option.join_some, List.set_cons_zero, List.set_cons_succ, List.nil_append, List.cons_append, List.append_nil, if_true, if_false, Bool.false_eq_true, reduceIte, Bool.not_true, Bool.not_false, Int.toNat_natCast]
    refine ⟨by decide, by decide, lc_range (lo := 0) (n := 2) (fun i ys H2 => i ≤ 2 ∧ Town H2 t r ∧ SameT H1 H2 ∧ ∃ ls : List (List S), ls.length = i ∧ (∀ l ∈ ls, l.length ≤ 4 ∧ ∀ x ∈ l, okS x) ∧ Reps H2 (ls.map rowD) ys) ?_ ?_ ?_ ?_⟩
    · rintro i ys H2 ⟨hi, _, _, ls, hl, _, hr⟩
      exact small1000 (by rw [hr.length, List.length_map, hl]; omega)
    · exact ⟨by decide, T1, SameT.refl _, [], rfl, fun l hl => by simp at hl, Reps.nil⟩
    · rintro i ys H2 hi ⟨h2, T2, s2, ls, hl, hok, hrs⟩
      simp only [lcσ, List.map_cons, List.map_nil, Option.bind_none, Option.bind_some, List.getElem?_cons_zero, List.getElem?_cons_succ, Option.join_some]
      simp only [tSeq_at, tNext_at, tRet_at, tIfS_at, tAsg_at, tDrop_at, tPar_at, gName_at, gTupF_at, gCons_cons, gNil_nil, tVar_at, tC_at, tOp_at, tUn_at, tIf_at, tAnd_at, tOr_at, tNot_at, onB_bl, tAndV_at, tOrV_at, tB_at, tTest_at, tIsN_at, tNotN_at, tTruth_at, tCB_at, tCall_at, tCons_at, tNil_at, tTup_at, tLst_at, rI0_at, rI_at, rU_at, rEq_at, rNe_at, rIxF_at, rLenF_at, rInF_at, rTupleF_at, rIsi_at, tBM_at, iList_at, iTup_at, onL_at, onT_at, iRng1_at, rCatTF_at, tLc_at, tFor_eq, tYes_at, on_some, List.getElem?_cons_zero, List.getElem?_cons_succ, Option.join_some, List.set_cons_zero, List.set_cons_succ, List.nil_append, List.cons_append, List.append_nil, if_true, if_false, Bool.false_eq_true, reduceIte, Bool.not_true, Bool.not_false, Int.toNat_natCast]
      refine ⟨keep_set (σ := [none, some (V.ref a), some (V.ref t)]) (i := 0) rfl, a, ns, t, r, 5, rfl, s2.sq g1.sq, hns, T2, by decide, by decide, fun x H3 x0 x1 T3 s3 => ?_⟩
      refine ⟨by omega, by omega, lc_range (lo := 0) (n := x.toNat) (fun j zs H4 => j ≤ 4 ∧ Town H4 t r ∧ SameT H3 H4 ∧ ∃ xs : List S, xs.length = j ∧ (∀ y ∈ xs, okS y) ∧ Reps H4 (xs.map stD) zs) ?_ ?_ ?_ ?_⟩
      · rintro j zs H4 ⟨hj, _, _, xs, hl, _, hr⟩
        exact small1000 (by rw [hr.length, List.length_map, hl]; omega)
      · exact ⟨by decide, T3, SameT.refl _, [], rfl, fun l hl => by simp at hl, Reps.nil⟩
      · rintro j zs H4 hj ⟨h4, T4, s4, xs, hxl, hxo, hxr⟩
        simp only [lcσ, List.map_cons, List.map_nil, Option.bind_none, Option.bind_some, List.getElem?_cons_zero, List.getElem?_cons_succ, Option.join_some]
        simp only [tSeq_at, tNext_at, tRet_at, tIfS_at, tAsg_at, tDrop_at, tPar_at, gName_at, gTupF_at, gCons_cons, gNil_nil, tVar_at, tC_at, tOp_at, tUn_at, tIf_at, tAnd_at, tOr_at, tNot_at, onB_bl, tAndV_at, tOrV_at, tB_at, tTest_at, tIsN_at, tNotN_at, tTruth_at, tCB_at, tCall_at, tCons_at, tNil_at, tTup_at, tLst_at, rI0_at, rI_at, rU_at, rEq_at, rNe_at, rIxF_at, rLenF_at, rInF_at, rTupleF_at, rIsi_at, tBM_at, iList_at, iTup_at, onL_at, onT_at, iRng1_at, rCatTF_at, tLc_at, tFor_eq, tYes_at, on_some, List.getElem?_cons_zero, List.getElem?_cons_succ, Option.join_some, List.set_cons_zero, List.set_cons_succ, List.nil_append, List.cons_append, List.append_nil, if_true, if_false, Bool.false_eq_true, reduceIte, Bool.not_true, Bool.not_false, Int.toNat_natCast]
        refine ⟨keep_set (σ := [none, some (V.ref a), some (V.ref t)]) (i := 0) rfl, a, ns, t, r, rfl, ((s2.trans s3).trans s4).sq g1.sq, hns, T4, fun y v H5 y0 y1 y2 ry T5 s5 => LcN.of hj ⟨by omega, T5, s4.trans s5, xs ++ [y], by simp [hxl], fun z hz => ?_, ?_⟩⟩
        · rcases List.mem_append.mp hz with hz | hz
          · exact hxo z hz
          · simp at hz; subst hz; exact ⟨y0, y1, y2⟩
        · rw [List.map_append]
          exact (Reps.monoT s5 hxr).snoc ry
      · rintro zs H4 ⟨h4, T4, s4, xs, hxl, hxo, hxr⟩ p hp
        have sp := same_upd (o := .lst zs) hp
        have hp6 : (upd H4 p (.lst zs)) p = some (.lst zs) := upd_same
        have T5 := T4.mono sp
        have hx5 := hxr.mono sp
        have s5 := ((s2.trans s3).trans s4).trans (SameT.of sp)
        have s25 := (s3.trans s4).trans (SameT.of sp)
        generalize upd H4 p (.lst zs) = H5 at sp hp6 T5 hx5 s5 s25
        simp only [tSeq_at, tNext_at, tRet_at, tIfS_at, tAsg_at, tDrop_at, tPar_at, gName_at, gTupF_at, gCons_cons, gNil_nil, tVar_at, tC_at, tOp_at, tUn_at, tIf_at, tAnd_at, tOr_at, tNot_at, onB_bl, tAndV_at, tOrV_at, tB_at, tTest_at, tIsN_at, tNotN_at, tTruth_at, tCB_at, tCall_at, tCons_at, tNil_at, tTup_at, tLst_at, rI0_at, rI_at, rU_at, rEq_at, rNe_at, rIxF_at, rLenF_at, rInF_at, rTupleF_at, rIsi_at, tBM_at, iList_at, iTup_at, onL_at, onT_at, iRng1_at, rCatTF_at, tLc_at, tFor_eq, tYes_at, on_some, List.getElem?_cons_zero, List.getElem?_cons_succ, Option.join_some, List.set_cons_zero, List.set_cons_succ, List.nil_append, List.cons_append, List.append_nil, if_true, if_false, Bool.false_eq_true, reduceIte, Bool.not_true, Bool.not_false, Int.toNat_natCast, seqAt_lst hp6]
        refine ⟨fun q hq => LcN.of hi ⟨by omega, T5.mono (same_upd hq), s5.trans (SameT.of (same_upd hq)), ls ++ [xs], by simp [hl], fun l hlm => ?_, ?_⟩, fun h => ?_⟩
        · rcases List.mem_append.mp hlm with hlm | hlm
          · exact hok l hlm
          · simp at hlm; subst hlm
            exact ⟨by omega, hxo⟩
        · rw [List.map_append]
          exact (Reps.mono (same_upd hq) (Reps.monoT s25 hrs)).snoc (Rep.tup upd_same (hx5.mono (same_upd hq)))
        · simp [tupAt, hp6] at h
    rintro ys H2 ⟨_, T2, s2, ls, hll, hok, hrs⟩ pr hpr
    obtain ⟨l0, l1, rfl⟩ : ∃ l0 l1, ls = [l0, l1] := by
      match ls, hll with
      | [l0, l1], _ => exact ⟨l0, l1, rfl⟩
    obtain ⟨len0, ok0⟩ := hok l0 (by simp)
    obtain ⟨len1, ok1⟩ := hok l1 (by simp)
    obtain ⟨v0, _, rfl, r0, hrs⟩ := Reps.uncons (d := rowD l0) (ds := [rowD l1]) hrs
    obtain ⟨v1, _, rfl, r1, hrs⟩ := Reps.uncons (d := rowD l1) (ds := []) hrs
    have := hrs.unnil; subst this
    have sp := same_upd (o := .lst [v0, v1]) hpr
    have g2 := (g1.monoT s2 T2).mono sp
    have hr2 : (upd H2 pr (.lst [v0, v1])) pr = some (.lst [v0, v1]) := upd_same
    have r0 := r0.mono sp
    have r1 := r1.mono sp
    generalize upd H2 pr (.lst [v0, v1]) = H3 at sp g2 hr2 r0 r1
    -- the cells
    rw [tSeq_at, tAsg_at]
    simp only [tNext_at, tRet_at, tIfS_at, tAsg_at, tDrop_at, tPar_at, gName_at, gTupF_at, gCons_cons, gNil_nil, tVar_at, tC_at, tOp_at, tUn_at, tIf_at, tAnd_at, tOr_at, tNot_at, onB_bl, tAndV_at, tOrV_at, tB_at, tTest_at, tIsN_at, tNotN_at, tTruth_at, tCB_at, tCall_at, tCons_at, tNil_at, tTup_at, tLst_at, rI0_at, rI_at, rU_at, rEq_at, rNe_at, rIxF_at, rLenF_at, rInF_at, rTupleF_at, rIsi_at, tBM_at, iList_at, iTup_at, onL_at, onT_at, iRng1_at, rCatTF_at, tLc_at, tFor_eq, tYes_at, on_some, List.getElem?_cons_zero, List.getElem?_cons_succ, Option.join_some, List.set_cons_zero, List.set_cons_succ, List.nil_append, List.cons_append, List.append_nil, if_true, if_false, Bool.false_eq_true, reduceIte, Bool.not_true, Bool.not_false, Int.toNat_natCast]
    have row : ∀ (i : Nat) (x : V), [v0, v1][i]? = some x → ∃ l, [l0, l1][i]? = some l ∧ Rep H3 (rowD l) x ∧ l.length ≤ 4 ∧ ∀ y ∈ l, okS y := fun i x hx => by
      match i, hx with
      | 0, hx => cases hx; exact ⟨l0, rfl, r0, len0, ok0⟩
      | 1, hx => cases hx; exact ⟨l1, rfl, r1, len1, ok1⟩
    have tk : ∀ (i : Nat) (l : List S), [l0, l1][i]? = some l → [l0, l1].take (i + 1) = [l0, l1].take i ++ [l] := fun i l h => by rw [List.take_add_one, h]; rfl
    refine ⟨⟨_, SqL.of hr2⟩, lc_list (K := K) (a := pr) (xs := [v0, v1]) (fun i ys H4 => i ≤ 2 ∧ Same H3 H4 ∧ Reps H4 (([l0, l1].take i).map fun l => D.lst ((cellsOf l).map D.int)) ys) ?_ ⟨by decide, Same.refl _, Reps.nil⟩ ?_ ?_ ?_⟩
    · rintro i ys H4 ⟨hi, _, hr⟩
      exact small1000 (by rw [hr.length, List.length_map, List.length_take]; simp; omega)
    · rintro i ys H4 ⟨_, s4, _⟩; exact SqL.of (s4 _ _ hr2)
    · rintro i x ys H4 hx ⟨hi, s4, hr⟩
      obtain ⟨l, hl, rl, ll, lo⟩ := row i x hx
      have hi2 : i < 2 := (List.getElem?_eq_some_iff.mp hx).1
      simp only [lcσ, List.map_cons, List.map_nil, Option.bind_none, Option.bind_some, List.getElem?_cons_zero, List.getElem?_cons_succ, Option.join_some]
      simp only [tSeq_at, tNext_at, tRet_at, tIfS_at, tAsg_at, tDrop_at, tPar_at, gName_at, gTupF_at, gCons_cons, gNil_nil, tVar_at, tC_at, tOp_at, tUn_at, tIf_at, tAnd_at, tOr_at, tNot_at, onB_bl, tAndV_at, tOrV_at, tB_at, tTest_at, tIsN_at, tNotN_at, tTruth_at, tCB_at, tCall_at, tCons_at, tNil_at, tTup_at, tLst_at, rI0_at, rI_at, rU_at, rEq_at, rNe_at, rIxF_at, rLenF_at, rInF_at, rTupleF_at, rIsi_at, tBM_at, iList_at, iTup_at, onL_at, onT_at, iRng1_at, rCatTF_at, tLc_at, tFor_eq, tYes_at, on_some, List.getElem?_cons_zero, List.getElem?_cons_succ, Option.join_some, List.set_cons_zero, List.set_cons_succ, List.nil_append, List.cons_append, List.append_nil, if_true, if_false, Bool.false_eq_true, reduceIte, Bool.not_true, Bool.not_false, Int.toNat_natCast]
      refine ⟨keep_set (σ := [none]) (i := 0) rfl, l, x, rfl, rl.mono s4, lo, by omega, fun v' H5 rv s5 => LcN.of hi2 ⟨hi2, s4.trans s5, ?_⟩⟩
      rw [tk i l hl, List.map_append]
      exact (Reps.mono s5 hr).snoc rv
    rintro ys H4 ⟨_, s4, hrs⟩ pc hpc
    obtain ⟨w0, _, rfl, c0, hrs⟩ := Reps.uncons (d := D.lst ((cellsOf l0).map D.int)) (ds := [D.lst ((cellsOf l1).map D.int)]) hrs
    obtain ⟨w1, _, rfl, c1, hrs⟩ := Reps.uncons (d := D.lst ((cellsOf l1).map D.int)) (ds := []) hrs
    have := hrs.unnil; subst this
    have sp2 := s4.trans (same_upd (o := .lst [w0, w1]) hpc)
    have g3 := g2.mono sp2
    have hr3 := sp2 _ _ hr2
    have hc3 : (upd H4 pc (.lst [w0, w1])) pc = some (.lst [w0, w1]) := upd_same
    have r0 := r0.mono sp2
    have r1 := r1.mono sp2
    have c0 := c0.mono (same_upd (o := .lst [w0, w1]) hpc)
    have c1 := c1.mono (same_upd (o := .lst [w0, w1]) hpc)
    generalize upd H4 pc (.lst [w0, w1]) = H5 at sp2 g3 hr3 hc3 r0 r1 c0 c1
    clear row
    -- the lots
    rw [tSeq_at, tAsg_at]
    simp only [tNext_at, tRet_at, tIfS_at, tAsg_at, tDrop_at, tPar_at, gName_at, gTupF_at, gCons_cons, gNil_nil, tVar_at, tC_at, tOp_at, tUn_at, tIf_at, tAnd_at, tOr_at, tNot_at, onB_bl, tAndV_at, tOrV_at, tB_at, tTest_at, tIsN_at, tNotN_at, tTruth_at, tCB_at, tCall_at, tCons_at, tNil_at, tTup_at, tLst_at, rI0_at, rI_at, rU_at, rEq_at, rNe_at, rIxF_at, rLenF_at, rInF_at, rTupleF_at, rIsi_at, tBM_at, iList_at, iTup_at, onL_at, onT_at, iRng1_at, rCatTF_at, tLc_at, tFor_eq, tYes_at, on_some, List.getElem?_cons_zero, List.getElem?_cons_succ, Option.join_some, List.set_cons_zero, List.set_cons_succ, List.nil_append, List.cons_append, List.append_nil, if_true, if_false, Bool.false_eq_true, reduceIte, Bool.not_true, Bool.not_false, Int.toNat_natCast]
    have row : ∀ (i : Nat) (x : V), [v0, v1][i]? = some x → ∃ l, [l0, l1][i]? = some l ∧ Rep H5 (rowD l) x ∧ l.length ≤ 4 ∧ ∀ y ∈ l, okS y := fun i x hx => by
      match i, hx with
      | 0, hx => cases hx; exact ⟨l0, rfl, r0, len0, ok0⟩
      | 1, hx => cases hx; exact ⟨l1, rfl, r1, len1, ok1⟩
    refine ⟨⟨_, SqL.of hr3⟩, lc_list (K := K) (a := pr) (xs := [v0, v1]) (fun i ys H6 => i ≤ 2 ∧ SameP T H5 H6 ∧ LamT H6 T lamPos lamQual ∧ ∃ qs : List (List S), qs.length = i ∧ (∀ (j : Nat) l q, [l0, l1][j]? = some l → qs[j]? = some q → Lot q ∧ (∀ c, memL q c = memL l c) ∧ q.length ≤ 4) ∧ Reps H6 (qs.map rowD) ys) ?_ ⟨by decide, SameP.refl _ _, g3.lam, [], rfl, fun j l q _ h => by simp at h, Reps.nil⟩ ?_ ?_ ?_⟩
    · rintro i ys H6 ⟨hi, _, _, qs, hq, _, hr⟩
      exact small1000 (by rw [hr.length, List.length_map]; omega)
    · rintro i ys H6 ⟨_, s6, _⟩; exact SqL.of ((s6.q g3.lam) _ _ hr3 rfl)
    · rintro i x ys H6 hx ⟨hi, s6, lam6, qs, hq, hqs, hr⟩
      obtain ⟨l, hl, rl, ll, lo⟩ := row i x hx
      have hi2 : i < 2 := (List.getElem?_eq_some_iff.mp hx).1
      simp only [lcσ, List.map_cons, List.map_nil, Option.bind_none, Option.bind_some, List.getElem?_cons_zero, List.getElem?_cons_succ, Option.join_some]
      simp only [tSeq_at, tNext_at, tRet_at, tIfS_at, tAsg_at, tDrop_at, tPar_at, gName_at, gTupF_at, gCons_cons, gNil_nil, tVar_at, tC_at, tOp_at, tUn_at, tIf_at, tAnd_at, tOr_at, tNot_at, onB_bl, tAndV_at, tOrV_at, tB_at, tTest_at, tIsN_at, tNotN_at, tTruth_at, tCB_at, tCall_at, tCons_at, tNil_at, tTup_at, tLst_at, rI0_at, rI_at, rU_at, rEq_at, rNe_at, rIxF_at, rLenF_at, rInF_at, rTupleF_at, rIsi_at, tBM_at, iList_at, iTup_at, onL_at, onT_at, iRng1_at, rCatTF_at, tLc_at, tFor_eq, tYes_at, on_some, List.getElem?_cons_zero, List.getElem?_cons_succ, Option.join_some, List.set_cons_zero, List.set_cons_succ, List.nil_append, List.cons_append, List.append_nil, if_true, if_false, Bool.false_eq_true, reduceIte, Bool.not_true, Bool.not_false, Int.toNat_natCast]
      refine ⟨keep_set (σ := [none]) (i := 0) rfl, l, x, rfl, Rep.monoQ (s6.q g3.lam) rl, fun y hy => okS_st (lo y hy), by omega, lam6, fun q v' H7 hq1 hq2 hq3 rv s7 lam7 => LcN.of hi2 ⟨hi2, s6.trans s7, lam7, qs ++ [q], by simp [hq], fun j l' q' h1 h2 => ?_, ?_⟩⟩
      · by_cases hj : j < qs.length
        · rw [List.getElem?_append_left hj] at h2
          exact hqs j l' q' h1 h2
        · have hj2 : j = qs.length := by
            have := (List.getElem?_eq_some_iff.mp h2).1
            simp at this
            omega
          subst hj2
          rw [hq, hl] at h1
          cases h1
          simp at h2
          subst h2
          exact ⟨hq1, hq2, by omega⟩
      · rw [List.map_append]
        exact (Reps.monoQ (s7.q lam6) hr).snoc rv
    rintro ys H6 ⟨_, s6, lam6, qs, hql, hqs, hrs⟩ pl hpl
    obtain ⟨q0, q1, rfl⟩ : ∃ q0 q1, qs = [q0, q1] := by
      match qs, hql with
      | [q0, q1], _ => exact ⟨q0, q1, rfl⟩
    obtain ⟨lt0, mm0, ql0⟩ := hqs 0 l0 q0 rfl rfl
    obtain ⟨lt1, mm1, ql1⟩ := hqs 1 l1 q1 rfl rfl
    obtain ⟨u0, _, rfl, k0, hrs⟩ := Reps.uncons (d := rowD q0) (ds := [rowD q1]) hrs
    obtain ⟨u1, _, rfl, k1, hrs⟩ := Reps.uncons (d := rowD q1) (ds := []) hrs
    have := hrs.unnil; subst this
    have sq := s6.q g3.lam
    have sp3 := same_upd (o := .lst [u0, u1]) hpl
    have g4 := (g3.monoP s6 lam6).mono sp3
    have hc4 := sp3 _ _ (sq _ _ hc3 rfl)
    have hl4 : (upd H6 pl (.lst [u0, u1])) pl = some (.lst [u0, u1]) := upd_same
    have c0 := (Rep.monoQ sq c0).mono sp3
    have c1 := (Rep.monoQ sq c1).mono sp3
    have k0 := k0.mono sp3
    have k1 := k1.mono sp3
    generalize upd H6 pl (.lst [u0, u1]) = H7 at sp3 g4 hc4 hl4 c0 c1 k0 k1
    have cap0 : ∀ c, memL q0 c = capM (cellsOf l0).contains c := fun c => (mm0 c).trans (cells_cap ok0 c)
    have cap1 : ∀ c, memL q1 c = capM (cellsOf l1).contains c := fun c => (mm1 c).trans (cells_cap ok1 c)
    have in0 := cells_in ok0
    have in1 := cells_in ok1
    clear row tk hok sq r0 r1 hr2 hr3 g2 g3
    -- for at in (0, 1)
    rw [tSeq_at, tFor_eq]
    simp only [tNext_at, tRet_at, tIfS_at, tAsg_at, tDrop_at, tPar_at, gName_at, gTupF_at, gCons_cons, gNil_nil, tVar_at, tC_at, tOp_at, tUn_at, tIf_at, tAnd_at, tOr_at, tNot_at, onB_bl, tAndV_at, tOrV_at, tB_at, tTest_at, tIsN_at, tNotN_at, tTruth_at, tCB_at, tCall_at, tCons_at, tNil_at, tTup_at, tLst_at, rI0_at, rI_at, rU_at, rEq_at, rNe_at, rIxF_at, rLenF_at, rInF_at, rTupleF_at, rIsi_at, tBM_at, iList_at, iTup_at, onL_at, onT_at, iRng1_at, rCatTF_at, tLc_at, tFor_eq, tYes_at, on_some, List.getElem?_cons_zero, List.getElem?_cons_succ, Option.join_some, List.set_cons_zero, List.set_cons_succ, List.nil_append, List.cons_append, List.append_nil, if_true, if_false, Bool.false_eq_true, reduceIte, Bool.not_true, Bool.not_false, Int.toNat_natCast]
    have part : ∀ i : Nat, i < 2 → ∃ l q cb lv, atI [w0, w1] (i : Int) = some (.ref cb) ∧ H7 cb = some (.lst ((cellsOf l).map V.int)) ∧ atI [u0, u1] (i : Int) = some lv ∧ Rep H7 (rowD q) lv ∧ Lot q ∧ (∀ c, memL q c = capM (cellsOf l).contains c) ∧ (∀ c ∈ cellsOf l, 0 ≤ c ∧ c ≤ 12) ∧ q.length ≤ 4 ∧ (cellsOf l).length ≤ 60 := fun i hi => by
      have z0 := cells_len ok0
      have z1 := cells_len ok1
      obtain ⟨b0, x0, e0, h0, y0⟩ := c0.lst_of
      obtain ⟨b1, x1, e1, h1, y1⟩ := c1.lst_of
      have := y0.ints_of; subst this
      have := y1.ints_of; subst this
      match i, hi with
      | 0, _ => exact ⟨l0, q0, b0, u0, by rw [e0]; rfl, h0, rfl, k0, lt0, cap0, in0, ql0, by omega⟩
      | 1, _ => exact ⟨l1, q1, b1, u1, by rw [e1]; rfl, h1, rfl, k1, lt1, cap1, in1, ql1, by omega⟩
    refine ⟨by decide, fun p2 hp2 => ⟨⟨_, SqT.of upd_same⟩, for_tup' (K := K) (a := p2) (xs := [V.int 0, V.int 1]) (fun i σ H8 => Same (upd H7 p2 (.tup [V.int 0, V.int 1])) H8 ∧ ∃ s5 s6 s7, σ = [some (V.ref a), some (V.ref t), some (V.ref pr), some (V.ref pc), some (V.ref pl), s5, s6, s7, none, none, none, none, none]) ⟨Same.refl _, _, _, _, rfl⟩ ?_ ?_ ?_⟩⟩
    · rintro i σ H8 _ ⟨s8, _⟩; exact SqT.of (s8 _ _ upd_same)
    · rintro i x σ H8 hx ⟨s8, s5, s6, s7, rfl⟩
      have hi2 : i < 2 := (List.getElem?_eq_some_iff.mp hx).1
      obtain rfl : x = .int (i : Int) := by
        match i, hx with
        | 0, hx => cases hx; rfl
        | 1, hx => cases hx; rfl
      obtain ⟨l, q, cb, lv, ac, hcb, al, hlv, lot, cap, cin, ql, cl⟩ := part i hi2
      have eqr := lot_runs lot cin cap
      have sm8 := (same_upd (o := .tup [V.int 0, V.int 1]) hp2).trans s8
      have hpc8 := sm8 _ _ hc4
      have hpl8 := sm8 _ _ hl4
      have hcb8 := sm8 _ _ hcb
      have hlv8 := hlv.mono sm8
      have dq := row_dep q
      simp only [tSeq_at, tNext_at, tRet_at, tIfS_at, tAsg_at, tDrop_at, tPar_at, gName_at, gTupF_at, gCons_cons, gNil_nil, tVar_at, tC_at, tOp_at, tUn_at, tIf_at, tAnd_at, tOr_at, tNot_at, onB_bl, tAndV_at, tOrV_at, tB_at, tTest_at, tIsN_at, tNotN_at, tTruth_at, tCB_at, tCall_at, tCons_at, tNil_at, tTup_at, tLst_at, rI0_at, rI_at, rU_at, rEq_at, rNe_at, rIxF_at, rLenF_at, rInF_at, rTupleF_at, rIsi_at, tBM_at, iList_at, iTup_at, onL_at, onT_at, iRng1_at, rCatTF_at, tLc_at, tFor_eq, tYes_at, on_some, List.getElem?_cons_zero, List.getElem?_cons_succ, Option.join_some, List.set_cons_zero, List.set_cons_succ, List.nil_append, List.cons_append, List.append_nil, if_true, if_false, Bool.false_eq_true, reduceIte, Bool.not_true, Bool.not_false, Int.toNat_natCast, seqAt_lst hpc8, seqAt_lst hpl8, ac, al]
      refine ⟨.ref cb, cellsOf l, rfl, Rep.lst hcb8 (Reps.ints _), cin, fun v' H9 rv s9 => ?_⟩
      obtain ⟨rb, rws, rfl, hrb, rrw⟩ := rv.lst_of
      simp only [tSeq_at, tNext_at, tRet_at, tIfS_at, tAsg_at, tDrop_at, tPar_at, gName_at, gTupF_at, gCons_cons, gNil_nil, tVar_at, tC_at, tOp_at, tUn_at, tIf_at, tAnd_at, tOr_at, tNot_at, onB_bl, tAndV_at, tOrV_at, tB_at, tTest_at, tIsN_at, tNotN_at, tTruth_at, tCB_at, tCall_at, tCons_at, tNil_at, tTup_at, tLst_at, rI0_at, rI_at, rU_at, rEq_at, rNe_at, rIxF_at, rLenF_at, rInF_at, rTupleF_at, rIsi_at, tBM_at, iList_at, iTup_at, onL_at, onT_at, iRng1_at, rCatTF_at, tLc_at, tFor_eq, tYes_at, on_some, List.getElem?_cons_zero, List.getElem?_cons_succ, Option.join_some, List.set_cons_zero, List.set_cons_succ, List.nil_append, List.cons_append, List.append_nil, if_true, if_false, Bool.false_eq_true, reduceIte, Bool.not_true, Bool.not_false, Int.toNat_natCast, seqAt_lst hrb]
      refine ⟨fun p3 hp3 => ?_, fun h => by simp [tupAt, hrb] at h⟩
      have s10 := s9.trans (same_upd (o := .tup rws) hp3)
      have rep10 : Rep (upd H9 p3 (.tup rws)) (rowD (runsF (cellsOf l).contains)) (.ref p3) := Rep.tup upd_same (rrw.mono (same_upd hp3))
      generalize upd H9 p3 (.tup rws) = H10 at s10 rep10
      refine ⟨rowD q, rowD (runsF (cellsOf l).contains), hlv8.mono s10, rep10, rfl, rfl, dq, ?_⟩
      rw [← eqr, eqD_self]
      have sA := sm8.trans s10
      have il : isLotD (rowD q) = true := isLot_lot lot
      simp only [tSeq_at, tNext_at, tRet_at, tIfS_at, tAsg_at, tDrop_at, tPar_at, gName_at, gTupF_at, gCons_cons, gNil_nil, tVar_at, tC_at, tOp_at, tUn_at, tIf_at, tAnd_at, tOr_at, tNot_at, onB_bl, tAndV_at, tOrV_at, tB_at, tTest_at, tIsN_at, tNotN_at, tTruth_at, tCB_at, tCall_at, tCons_at, tNil_at, tTup_at, tLst_at, rI0_at, rI_at, rU_at, rEq_at, rNe_at, rIxF_at, rLenF_at, rInF_at, rTupleF_at, rIsi_at, tBM_at, iList_at, iTup_at, onL_at, onT_at, iRng1_at, rCatTF_at, tLc_at, tFor_eq, tYes_at, on_some, List.getElem?_cons_zero, List.getElem?_cons_succ, Option.join_some, List.set_cons_zero, List.set_cons_succ, List.nil_append, List.cons_append, List.append_nil, if_true, if_false, Bool.false_eq_true, reduceIte, Bool.not_true, Bool.not_false, Int.toNat_natCast, seqAt_lst (sA _ _ hl4), al]
      refine ⟨lv, rowD q, rfl, hlv.mono sA, fun H11 s11 => ?_⟩
      have sB := sA.trans s11
      simp only [tSeq_at, tNext_at, tRet_at, tIfS_at, tAsg_at, tDrop_at, tPar_at, gName_at, gTupF_at, gCons_cons, gNil_nil, tVar_at, tC_at, tOp_at, tUn_at, tIf_at, tAnd_at, tOr_at, tNot_at, onB_bl, tAndV_at, tOrV_at, tB_at, tTest_at, tIsN_at, tNotN_at, tTruth_at, tCB_at, tCall_at, tCons_at, tNil_at, tTup_at, tLst_at, rI0_at, rI_at, rU_at, rEq_at, rNe_at, rIxF_at, rLenF_at, rInF_at, rTupleF_at, rIsi_at, tBM_at, iList_at, iTup_at, onL_at, onT_at, iRng1_at, rCatTF_at, tLc_at, tFor_eq, tYes_at, on_some, List.getElem?_cons_zero, List.getElem?_cons_succ, Option.join_some, List.set_cons_zero, List.set_cons_succ, List.nil_append, List.cons_append, List.append_nil, if_true, if_false, Bool.false_eq_true, reduceIte, Bool.not_true, Bool.not_false, Int.toNat_natCast, il, seqAt_lst (sB _ _ hc4), ac]
      refine ⟨cb, cellsOf l, rfl, sB _ _ hcb, by omega, fun p4 S n hp4 un => ⟨p4, S, n, rfl, upd_same, ?_⟩⟩
      have sC := sB.trans (same_upd (o := .set S n) hp4)
      have sC8 := ((s8.trans s10).trans s11).trans (same_upd (o := .set S n) hp4)
      generalize upd H11 p4 (.set S n) = H12 at sC sC8
      simp only [tSeq_at, tNext_at, tRet_at, tIfS_at, tAsg_at, tDrop_at, tPar_at, gName_at, gTupF_at, gCons_cons, gNil_nil, tVar_at, tC_at, tOp_at, tUn_at, tIf_at, tAnd_at, tOr_at, tNot_at, onB_bl, tAndV_at, tOrV_at, tB_at, tTest_at, tIsN_at, tNotN_at, tTruth_at, tCB_at, tCall_at, tCons_at, tNil_at, tTup_at, tLst_at, rI0_at, rI_at, rU_at, rEq_at, rNe_at, rIxF_at, rLenF_at, rInF_at, rTupleF_at, rIsi_at, tBM_at, iList_at, iTup_at, onL_at, onT_at, iRng1_at, rCatTF_at, tLc_at, tFor_eq, tYes_at, on_some, List.getElem?_cons_zero, List.getElem?_cons_succ, Option.join_some, List.set_cons_zero, List.set_cons_succ, List.nil_append, List.cons_append, List.append_nil, if_true, if_false, Bool.false_eq_true, reduceIte, Bool.not_true, Bool.not_false, Int.toNat_natCast, seqAt_lst (sC _ _ hl4), al]
      refine ⟨q, lv, rfl, hlv.mono sC, ?_⟩
      have inC : ∀ c : Int, inV (.int c) ((cellsOf l).map V.int) = (cellsOf l).contains c := fun c => inV_ints c _
      have fl := flat_ints (cellsOf l)
      simp only [tSeq_at, tNext_at, tRet_at, tIfS_at, tAsg_at, tDrop_at, tPar_at, gName_at, gTupF_at, gCons_cons, gNil_nil, tVar_at, tC_at, tOp_at, tUn_at, tIf_at, tAnd_at, tOr_at, tNot_at, onB_bl, tAndV_at, tOrV_at, tB_at, tTest_at, tIsN_at, tNotN_at, tTruth_at, tCB_at, tCall_at, tCons_at, tNil_at, tTup_at, tLst_at, rI0_at, rI_at, rU_at, rEq_at, rNe_at, rIxF_at, rLenF_at, rInF_at, rTupleF_at, rIsi_at, tBM_at, iList_at, iTup_at, onL_at, onT_at, iRng1_at, rCatTF_at, tLc_at, tFor_eq, tYes_at, on_some, List.getElem?_cons_zero, List.getElem?_cons_succ, Option.join_some, List.set_cons_zero, List.set_cons_succ, List.nil_append, List.cons_append, List.append_nil, if_true, if_false, Bool.false_eq_true, reduceIte, Bool.not_true, Bool.not_false, Int.toNat_natCast, seqAt_lst (sC _ _ hc4), ac, seqAt_lst (sC _ _ hcb), inC, flatV, fl]
      refine ⟨trivial, trivial, ?_⟩
      have sz := size_cells lot cin cap un
      have eq : ∀ j : Nat, (memL q (j : Int) == (cellsOf l).contains (if (12 : Int) < (j : Int) then 12 else (j : Int))) = true := fun j => by
        rw [cap, capM, beq_iff_eq]
        by_cases z : (13 : Int) ≤ (j : Int)
        · rw [if_pos z, if_pos (by omega)]
        · rw [if_neg z, if_neg (by omega)]
      cases h12 : (cellsOf l).contains 12
      all_goals rw [h12] at sz
      · rw [if_neg (by decide)] at sz ⊢
        rw [sz]
        refine ⟨rfl, ?_⟩
        simp only [tSeq_at, tNext_at, tRet_at, tIfS_at, tAsg_at, tDrop_at, tPar_at, gName_at, gTupF_at, gCons_cons, gNil_nil, tVar_at, tC_at, tOp_at, tUn_at, tIf_at, tAnd_at, tOr_at, tNot_at, onB_bl, tAndV_at, tOrV_at, tB_at, tTest_at, tIsN_at, tNotN_at, tTruth_at, tCB_at, tCall_at, tCons_at, tNil_at, tTup_at, tLst_at, rI0_at, rI_at, rU_at, rEq_at, rNe_at, rIxF_at, rLenF_at, rInF_at, rTupleF_at, rIsi_at, tBM_at, iList_at, iTup_at, onL_at, onT_at, iRng1_at, rCatTF_at, tLc_at, tFor_eq, tYes_at, on_some, List.getElem?_cons_zero, List.getElem?_cons_succ, Option.join_some, List.set_cons_zero, List.set_cons_succ, List.nil_append, List.cons_append, List.append_nil, if_true, if_false, Bool.false_eq_true, reduceIte, Bool.not_true, Bool.not_false, Int.toNat_natCast, endV, decide_true]
        refine ⟨by decide, by decide, for_range' (lo := 0) (n := 16) (fun j σ H13 => H13 = H12 ∧ ∃ s7, σ = [some (V.ref a), some (V.ref t), some (V.ref pr), some (V.ref pc), some (V.ref pl), some (V.int (i : Int)), some (V.int (n : Int)), s7, none, none, none, none, none]) ⟨rfl, _, rfl⟩ ?_ ?_⟩
        · rintro j σ H13 hj ⟨rfl, s7', rfl⟩
          simp only [tSeq_at, tNext_at, tRet_at, tIfS_at, tAsg_at, tDrop_at, tPar_at, gName_at, gTupF_at, gCons_cons, gNil_nil, tVar_at, tC_at, tOp_at, tUn_at, tIf_at, tAnd_at, tOr_at, tNot_at, onB_bl, tAndV_at, tOrV_at, tB_at, tTest_at, tIsN_at, tNotN_at, tTruth_at, tCB_at, tCall_at, tCons_at, tNil_at, tTup_at, tLst_at, rI0_at, rI_at, rU_at, rEq_at, rNe_at, rIxF_at, rLenF_at, rInF_at, rTupleF_at, rIsi_at, tBM_at, iList_at, iTup_at, onL_at, onT_at, iRng1_at, rCatTF_at, tLc_at, tFor_eq, tYes_at, on_some, List.getElem?_cons_zero, List.getElem?_cons_succ, Option.join_some, List.set_cons_zero, List.set_cons_succ, List.nil_append, List.cons_append, List.append_nil, if_true, if_false, Bool.false_eq_true, reduceIte, Bool.not_true, Bool.not_false, Int.toNat_natCast, Int.zero_add, seqAt_lst (sC _ _ hl4), al]
          refine ⟨q, (j : Int), lv, rfl, hlv.mono sC, ?_⟩
          simp only [tSeq_at, tNext_at, tRet_at, tIfS_at, tAsg_at, tDrop_at, tPar_at, gName_at, gTupF_at, gCons_cons, gNil_nil, tVar_at, tC_at, tOp_at, tUn_at, tIf_at, tAnd_at, tOr_at, tNot_at, onB_bl, tAndV_at, tOrV_at, tB_at, tTest_at, tIsN_at, tNotN_at, tTruth_at, tCB_at, tCall_at, tCons_at, tNil_at, tTup_at, tLst_at, rI0_at, rI_at, rU_at, rEq_at, rNe_at, rIxF_at, rLenF_at, rInF_at, rTupleF_at, rIsi_at, tBM_at, iList_at, iTup_at, onL_at, onT_at, iRng1_at, rCatTF_at, tLc_at, tFor_eq, tYes_at, on_some, List.getElem?_cons_zero, List.getElem?_cons_succ, Option.join_some, List.set_cons_zero, List.set_cons_succ, List.nil_append, List.cons_append, List.append_nil, if_true, if_false, Bool.false_eq_true, reduceIte, Bool.not_true, Bool.not_false, Int.toNat_natCast, rMin2F_at, seqAt_lst (sC _ _ hc4), ac, seqAt_lst (sC _ _ hcb), inC, flatV, fl]
          refine ⟨trivial, trivial, _, _, rfl, ?_⟩
          rw [eq j]
          simp only [tSeq_at, tNext_at, tRet_at, tIfS_at, tAsg_at, tDrop_at, tPar_at, gName_at, gTupF_at, gCons_cons, gNil_nil, tVar_at, tC_at, tOp_at, tUn_at, tIf_at, tAnd_at, tOr_at, tNot_at, onB_bl, tAndV_at, tOrV_at, tB_at, tTest_at, tIsN_at, tNotN_at, tTruth_at, tCB_at, tCall_at, tCons_at, tNil_at, tTup_at, tLst_at, rI0_at, rI_at, rU_at, rEq_at, rNe_at, rIxF_at, rLenF_at, rInF_at, rTupleF_at, rIsi_at, tBM_at, iList_at, iTup_at, onL_at, onT_at, iRng1_at, rCatTF_at, tLc_at, tFor_eq, tYes_at, on_some, List.getElem?_cons_zero, List.getElem?_cons_succ, Option.join_some, List.set_cons_zero, List.set_cons_succ, List.nil_append, List.cons_append, List.append_nil, if_true, if_false, Bool.false_eq_true, reduceIte, Bool.not_true, Bool.not_false, Int.toNat_natCast]
          exact ⟨trivial, _, rfl⟩
        · rintro σ H13 ⟨rfl, s7', rfl⟩
          exact ⟨sC8, _, _, _, rfl⟩
      · rw [if_pos rfl] at sz ⊢
        rw [sz]
        refine ⟨rfl, ?_⟩
        simp only [tSeq_at, tNext_at, tRet_at, tIfS_at, tAsg_at, tDrop_at, tPar_at, gName_at, gTupF_at, gCons_cons, gNil_nil, tVar_at, tC_at, tOp_at, tUn_at, tIf_at, tAnd_at, tOr_at, tNot_at, onB_bl, tAndV_at, tOrV_at, tB_at, tTest_at, tIsN_at, tNotN_at, tTruth_at, tCB_at, tCall_at, tCons_at, tNil_at, tTup_at, tLst_at, rI0_at, rI_at, rU_at, rEq_at, rNe_at, rIxF_at, rLenF_at, rInF_at, rTupleF_at, rIsi_at, tBM_at, iList_at, iTup_at, onL_at, onT_at, iRng1_at, rCatTF_at, tLc_at, tFor_eq, tYes_at, on_some, List.getElem?_cons_zero, List.getElem?_cons_succ, Option.join_some, List.set_cons_zero, List.set_cons_succ, List.nil_append, List.cons_append, List.append_nil, if_true, if_false, Bool.false_eq_true, reduceIte, Bool.not_true, Bool.not_false, Int.toNat_natCast, endV, decide_true]
        refine ⟨by decide, by decide, for_range' (lo := 0) (n := 16) (fun j σ H13 => H13 = H12 ∧ ∃ s7, σ = [some (V.ref a), some (V.ref t), some (V.ref pr), some (V.ref pc), some (V.ref pl), some (V.int (i : Int)), some (V.int (n : Int)), s7, none, none, none, none, none]) ⟨rfl, _, rfl⟩ ?_ ?_⟩
        · rintro j σ H13 hj ⟨rfl, s7', rfl⟩
          simp only [tSeq_at, tNext_at, tRet_at, tIfS_at, tAsg_at, tDrop_at, tPar_at, gName_at, gTupF_at, gCons_cons, gNil_nil, tVar_at, tC_at, tOp_at, tUn_at, tIf_at, tAnd_at, tOr_at, tNot_at, onB_bl, tAndV_at, tOrV_at, tB_at, tTest_at, tIsN_at, tNotN_at, tTruth_at, tCB_at, tCall_at, tCons_at, tNil_at, tTup_at, tLst_at, rI0_at, rI_at, rU_at, rEq_at, rNe_at, rIxF_at, rLenF_at, rInF_at, rTupleF_at, rIsi_at, tBM_at, iList_at, iTup_at, onL_at, onT_at, iRng1_at, rCatTF_at, tLc_at, tFor_eq, tYes_at, on_some, List.getElem?_cons_zero, List.getElem?_cons_succ, Option.join_some, List.set_cons_zero, List.set_cons_succ, List.nil_append, List.cons_append, List.append_nil, if_true, if_false, Bool.false_eq_true, reduceIte, Bool.not_true, Bool.not_false, Int.toNat_natCast, Int.zero_add, seqAt_lst (sC _ _ hl4), al]
          refine ⟨q, (j : Int), lv, rfl, hlv.mono sC, ?_⟩
          simp only [tSeq_at, tNext_at, tRet_at, tIfS_at, tAsg_at, tDrop_at, tPar_at, gName_at, gTupF_at, gCons_cons, gNil_nil, tVar_at, tC_at, tOp_at, tUn_at, tIf_at, tAnd_at, tOr_at, tNot_at, onB_bl, tAndV_at, tOrV_at, tB_at, tTest_at, tIsN_at, tNotN_at, tTruth_at, tCB_at, tCall_at, tCons_at, tNil_at, tTup_at, tLst_at, rI0_at, rI_at, rU_at, rEq_at, rNe_at, rIxF_at, rLenF_at, rInF_at, rTupleF_at, rIsi_at, tBM_at, iList_at, iTup_at, onL_at, onT_at, iRng1_at, rCatTF_at, tLc_at, tFor_eq, tYes_at, on_some, List.getElem?_cons_zero, List.getElem?_cons_succ, Option.join_some, List.set_cons_zero, List.set_cons_succ, List.nil_append, List.cons_append, List.append_nil, if_true, if_false, Bool.false_eq_true, reduceIte, Bool.not_true, Bool.not_false, Int.toNat_natCast, rMin2F_at, seqAt_lst (sC _ _ hc4), ac, seqAt_lst (sC _ _ hcb), inC, flatV, fl]
          refine ⟨trivial, trivial, _, _, rfl, ?_⟩
          rw [eq j]
          simp only [tSeq_at, tNext_at, tRet_at, tIfS_at, tAsg_at, tDrop_at, tPar_at, gName_at, gTupF_at, gCons_cons, gNil_nil, tVar_at, tC_at, tOp_at, tUn_at, tIf_at, tAnd_at, tOr_at, tNot_at, onB_bl, tAndV_at, tOrV_at, tB_at, tTest_at, tIsN_at, tNotN_at, tTruth_at, tCB_at, tCall_at, tCons_at, tNil_at, tTup_at, tLst_at, rI0_at, rI_at, rU_at, rEq_at, rNe_at, rIxF_at, rLenF_at, rInF_at, rTupleF_at, rIsi_at, tBM_at, iList_at, iTup_at, onL_at, onT_at, iRng1_at, rCatTF_at, tLc_at, tFor_eq, tYes_at, on_some, List.getElem?_cons_zero, List.getElem?_cons_succ, Option.join_some, List.set_cons_zero, List.set_cons_succ, List.nil_append, List.cons_append, List.append_nil, if_true, if_false, Bool.false_eq_true, reduceIte, Bool.not_true, Bool.not_false, Int.toNat_natCast]
          exact ⟨trivial, _, rfl⟩
        · rintro σ H13 ⟨rfl, s7', rfl⟩
          exact ⟨sC8, _, _, _, rfl⟩
    · rintro σ H8 ⟨s8, s5, s6, s7, rfl⟩
      have sm8 := (same_upd (o := .tup [V.int 0, V.int 1]) hp2).trans s8
      have g8 := g4.mono sm8
      have hc8 := sm8 _ _ hc4
      have k0 := k0.mono sm8
      have k1 := k1.mono sm8
      have hl8 := sm8 _ _ hl4
      obtain ⟨b0, x0, rfl, h0, y0⟩ := (c0.mono sm8).lst_of
      obtain ⟨b1, x1, rfl, h1, y1⟩ := (c1.mono sm8).lst_of
      have := y0.ints_of; subst this
      have := y1.ints_of; subst this
      have z0 := cells_len ok0
      have z1 := cells_len ok1
      clear part c0 c1
      dsimp only
      rw [tSeq_at, tAsg_at]
      simp only [tNext_at, tRet_at, tIfS_at, tAsg_at, tDrop_at, tPar_at, gName_at, gTupF_at, gCons_cons, gNil_nil, tVar_at, tC_at, tOp_at, tUn_at, tIf_at, tAnd_at, tOr_at, tNot_at, onB_bl, tAndV_at, tOrV_at, tB_at, tTest_at, tIsN_at, tNotN_at, tTruth_at, tCB_at, tCall_at, tCons_at, tNil_at, tTup_at, tLst_at, rI0_at, rI_at, rU_at, rEq_at, rNe_at, rIxF_at, rLenF_at, rInF_at, rTupleF_at, rIsi_at, tBM_at, iList_at, iTup_at, onL_at, onT_at, iRng1_at, rCatTF_at, tLc_at, tFor_eq, tYes_at, on_some, List.getElem?_cons_zero, List.getElem?_cons_succ, Option.join_some, List.set_cons_zero, List.set_cons_succ, List.nil_append, List.cons_append, List.append_nil, if_true, if_false, Bool.false_eq_true, reduceIte, Bool.not_true, Bool.not_false, Int.toNat_natCast]
      refine ⟨pl, u0, u1, rfl, hl8, ?_⟩
      simp only [tNext_at, tRet_at, tIfS_at, tAsg_at, tDrop_at, tPar_at, gName_at, gTupF_at, gCons_cons, gNil_nil, tVar_at, tC_at, tOp_at, tUn_at, tIf_at, tAnd_at, tOr_at, tNot_at, onB_bl, tAndV_at, tOrV_at, tB_at, tTest_at, tIsN_at, tNotN_at, tTruth_at, tCB_at, tCall_at, tCons_at, tNil_at, tTup_at, tLst_at, rI0_at, rI_at, rU_at, rEq_at, rNe_at, rIxF_at, rLenF_at, rInF_at, rTupleF_at, rIsi_at, tBM_at, iList_at, iTup_at, onL_at, onT_at, iRng1_at, rCatTF_at, tLc_at, tFor_eq, tYes_at, on_some, List.getElem?_cons_zero, List.getElem?_cons_succ, Option.join_some, List.set_cons_zero, List.set_cons_succ, List.nil_append, List.cons_append, List.append_nil, if_true, if_false, Bool.false_eq_true, reduceIte, Bool.not_true, Bool.not_false, Int.toNat_natCast]
      -- joined
      rw [tSeq_at]
      simp only [tNext_at, tRet_at, tIfS_at, tAsg_at, tDrop_at, tPar_at, gName_at, gTupF_at, gCons_cons, gNil_nil, tVar_at, tC_at, tOp_at, tUn_at, tIf_at, tAnd_at, tOr_at, tNot_at, onB_bl, tAndV_at, tOrV_at, tB_at, tTest_at, tIsN_at, tNotN_at, tTruth_at, tCB_at, tCall_at, tCons_at, tNil_at, tTup_at, tLst_at, rI0_at, rI_at, rU_at, rEq_at, rNe_at, rIxF_at, rLenF_at, rInF_at, rTupleF_at, rIsi_at, tBM_at, iList_at, iTup_at, onL_at, onT_at, iRng1_at, rCatTF_at, tLc_at, tFor_eq, tYes_at, on_some, List.getElem?_cons_zero, List.getElem?_cons_succ, Option.join_some, List.set_cons_zero, List.set_cons_succ, List.nil_append, List.cons_append, List.append_nil, if_true, if_false, Bool.false_eq_true, reduceIte, Bool.not_true, Bool.not_false, Int.toNat_natCast]
      refine ⟨q0, q1, u0, u1, rfl, k0, k1, lt0.ok, lt1.ok, by omega, by omega, g8.lam, fun r9 v9 H9 lt9 mm9 ln9 rv9 s9 lam9 => ?_⟩
      have sq9 := s9.q g8.lam
      have g9 := g8.monoP s9 lam9
      have hc9 := sq9 _ _ hc8 rfl
      have h09 := sq9 _ _ h0 rfl
      have h19 := sq9 _ _ h1 rfl
      simp only [tNext_at, tRet_at, tIfS_at, tAsg_at, tDrop_at, tPar_at, gName_at, gTupF_at, gCons_cons, gNil_nil, tVar_at, tC_at, tOp_at, tUn_at, tIf_at, tAnd_at, tOr_at, tNot_at, onB_bl, tAndV_at, tOrV_at, tB_at, tTest_at, tIsN_at, tNotN_at, tTruth_at, tCB_at, tCall_at, tCons_at, tNil_at, tTup_at, tLst_at, rI0_at, rI_at, rU_at, rEq_at, rNe_at, rIxF_at, rLenF_at, rInF_at, rTupleF_at, rIsi_at, tBM_at, iList_at, iTup_at, onL_at, onT_at, iRng1_at, rCatTF_at, tLc_at, tFor_eq, tYes_at, on_some, List.getElem?_cons_zero, List.getElem?_cons_succ, Option.join_some, List.set_cons_zero, List.set_cons_succ, List.nil_append, List.cons_append, List.append_nil, if_true, if_false, Bool.false_eq_true, reduceIte, Bool.not_true, Bool.not_false, Int.toNat_natCast, seqAt_lst hc9, i0, i1]
      rw [rCatF_of h09 h19]
      refine ⟨Nat.le_of_lt (small1000 (by rw [List.length_map, List.length_map]; omega)), fun p5 hp5 => ?_⟩
      refine ⟨.ref p5, cellsOf l0 ++ cellsOf l1, rfl, Rep.lst upd_same (by rw [← List.map_append]; exact Reps.ints _), fun c hc => (List.mem_append.mp hc).elim (in0 c) (in1 c), fun v10 H10 rv10 s10 => ?_⟩
      have e9 : r9 = runsF (cellsOf l0 ++ cellsOf l1).contains := lot_runs lt9 (fun c hc => (List.mem_append.mp hc).elim (in0 c) (in1 c)) fun c => by rw [mm9, cap0, cap1, capM_or]
      rw [← e9] at rv10
      have sA := (same_upd (o := .lst (((cellsOf l0).map V.int) ++ ((cellsOf l1).map V.int))) hp5).trans s10
      try simp only [tNext_at, tRet_at, tIfS_at, tAsg_at, tDrop_at, tPar_at, gName_at, gTupF_at, gCons_cons, gNil_nil, tVar_at, tC_at, tOp_at, tUn_at, tIf_at, tAnd_at, tOr_at, tNot_at, onB_bl, tAndV_at, tOrV_at, tB_at, tTest_at, tIsN_at, tNotN_at, tTruth_at, tCB_at, tCall_at, tCons_at, tNil_at, tTup_at, tLst_at, rI0_at, rI_at, rU_at, rEq_at, rNe_at, rIxF_at, rLenF_at, rInF_at, rTupleF_at, rIsi_at, tBM_at, iList_at, iTup_at, onL_at, onT_at, iRng1_at, rCatTF_at, tLc_at, tFor_eq, tYes_at, on_some, List.getElem?_cons_zero, List.getElem?_cons_succ, Option.join_some, List.set_cons_zero, List.set_cons_succ, List.nil_append, List.cons_append, List.append_nil, if_true, if_false, Bool.false_eq_true, reduceIte, Bool.not_true, Bool.not_false, Int.toNat_natCast]
      refine eq_runs (rv9.mono sA) rv10 fun H11 s11 => ?_
      have sB := sA.trans s11
      have g11 := g9.mono sB
      have hc11 := sB _ _ hc9
      have h011 := sB _ _ h09
      have h111 := sB _ _ h19
      have k0 := (Rep.monoQ sq9 k0).mono sB
      have k1 := (Rep.monoQ sq9 k1).mono sB
      clear hc9 h09 h19 g9 sA rv10 rv9
      simp only [tNext_at, tRet_at, tIfS_at, tAsg_at, tDrop_at, tPar_at, gName_at, gTupF_at, gCons_cons, gNil_nil, tVar_at, tC_at, tOp_at, tUn_at, tIf_at, tAnd_at, tOr_at, tNot_at, onB_bl, tAndV_at, tOrV_at, tB_at, tTest_at, tIsN_at, tNotN_at, tTruth_at, tCB_at, tCall_at, tCons_at, tNil_at, tTup_at, tLst_at, rI0_at, rI_at, rU_at, rEq_at, rNe_at, rIxF_at, rLenF_at, rInF_at, rTupleF_at, rIsi_at, tBM_at, iList_at, iTup_at, onL_at, onT_at, iRng1_at, rCatTF_at, tLc_at, tFor_eq, tYes_at, on_some, List.getElem?_cons_zero, List.getElem?_cons_succ, Option.join_some, List.set_cons_zero, List.set_cons_succ, List.nil_append, List.cons_append, List.append_nil, if_true, if_false, Bool.false_eq_true, reduceIte, Bool.not_true, Bool.not_false, Int.toNat_natCast]
      -- without
      rw [tSeq_at]
      simp only [tNext_at, tRet_at, tIfS_at, tAsg_at, tDrop_at, tPar_at, gName_at, gTupF_at, gCons_cons, gNil_nil, tVar_at, tC_at, tOp_at, tUn_at, tIf_at, tAnd_at, tOr_at, tNot_at, onB_bl, tAndV_at, tOrV_at, tB_at, tTest_at, tIsN_at, tNotN_at, tTruth_at, tCB_at, tCall_at, tCons_at, tNil_at, tTup_at, tLst_at, rI0_at, rI_at, rU_at, rEq_at, rNe_at, rIxF_at, rLenF_at, rInF_at, rTupleF_at, rIsi_at, tBM_at, iList_at, iTup_at, onL_at, onT_at, iRng1_at, rCatTF_at, tLc_at, tFor_eq, tYes_at, on_some, List.getElem?_cons_zero, List.getElem?_cons_succ, Option.join_some, List.set_cons_zero, List.set_cons_succ, List.nil_append, List.cons_append, List.append_nil, if_true, if_false, Bool.false_eq_true, reduceIte, Bool.not_true, Bool.not_false, Int.toNat_natCast]
      refine ⟨q0, q1, u0, u1, rfl, k0, k1, by omega, by omega, fun v12 H12 rv12 s12 => ?_⟩
      have g12 := g11.mono s12
      have hc12 := s12 _ _ hc11
      have h012 := s12 _ _ h011
      have h112 := s12 _ _ h111
      have k0 := k0.mono s12
      have k1 := k1.mono s12
      obtain ⟨lg, mg'⟩ := gaps_ok (Int.le_refl 0) lt1 (fun c hc => lt1.nonneg hc) (fun _ _ _ => .inr rfl)
      obtain ⟨lw, mw⟩ := both_ok _ q0 (gapsF 0 q1) (Nat.le_refl _) lt0 lg
      have inw : ∀ c ∈ (cellsOf l0).filter fun c => !(cellsOf l1).contains c, 0 ≤ c ∧ c ≤ 12 := fun c hc => in0 c (List.mem_filter.mp hc).1
      have ew : bothF q0 (gapsF 0 q1) = runsF ((cellsOf l0).filter fun c => !(cellsOf l1).contains c).contains := lot_runs lw inw fun c => by
        rw [mw, mg', ← capM_not, ← cap0, ← cap1]
        cases z : memL q0 c with
        | false => rfl
        | true => have := lt0.nonneg z; simp [this]
      simp only [tNext_at, tRet_at, tIfS_at, tAsg_at, tDrop_at, tPar_at, gName_at, gTupF_at, gCons_cons, gNil_nil, tVar_at, tC_at, tOp_at, tUn_at, tIf_at, tAnd_at, tOr_at, tNot_at, onB_bl, tAndV_at, tOrV_at, tB_at, tTest_at, tIsN_at, tNotN_at, tTruth_at, tCB_at, tCall_at, tCons_at, tNil_at, tTup_at, tLst_at, rI0_at, rI_at, rU_at, rEq_at, rNe_at, rIxF_at, rLenF_at, rInF_at, rTupleF_at, rIsi_at, tBM_at, iList_at, iTup_at, onL_at, onT_at, iRng1_at, rCatTF_at, tLc_at, tFor_eq, tYes_at, on_some, List.getElem?_cons_zero, List.getElem?_cons_succ, Option.join_some, List.set_cons_zero, List.set_cons_succ, List.nil_append, List.cons_append, List.append_nil, if_true, if_false, Bool.false_eq_true, reduceIte, Bool.not_true, Bool.not_false, Int.toNat_natCast, seqAt_lst hc12, i0]
      refine ⟨⟨_, SqL.of h012⟩, lc_cells true rfl hc12 h012 h112 (by omega) fun p6 hp6 => ?_⟩
      refine ⟨.ref p6, (cellsOf l0).filter fun c => !(cellsOf l1).contains c, rfl, Rep.lst upd_same (Reps.ints _), inw, fun v13 H13 rv13 s13 => ?_⟩
      rw [← ew] at rv13
      have sA := (same_upd (o := .lst (((cellsOf l0).filter fun c => if true then !(cellsOf l1).contains c else (cellsOf l1).contains c).map V.int)) hp6).trans s13
      try simp only [tNext_at, tRet_at, tIfS_at, tAsg_at, tDrop_at, tPar_at, gName_at, gTupF_at, gCons_cons, gNil_nil, tVar_at, tC_at, tOp_at, tUn_at, tIf_at, tAnd_at, tOr_at, tNot_at, onB_bl, tAndV_at, tOrV_at, tB_at, tTest_at, tIsN_at, tNotN_at, tTruth_at, tCB_at, tCall_at, tCons_at, tNil_at, tTup_at, tLst_at, rI0_at, rI_at, rU_at, rEq_at, rNe_at, rIxF_at, rLenF_at, rInF_at, rTupleF_at, rIsi_at, tBM_at, iList_at, iTup_at, onL_at, onT_at, iRng1_at, rCatTF_at, tLc_at, tFor_eq, tYes_at, on_some, List.getElem?_cons_zero, List.getElem?_cons_succ, Option.join_some, List.set_cons_zero, List.set_cons_succ, List.nil_append, List.cons_append, List.append_nil, if_true, if_false, Bool.false_eq_true, reduceIte, Bool.not_true, Bool.not_false, Int.toNat_natCast]
      refine eq_runs (rv12.mono sA) rv13 fun H14 s14 => ?_
      have sB := sA.trans s14
      have g14 := g12.mono sB
      have hc14 := sB _ _ hc12
      have h014 := sB _ _ h012
      have h114 := sB _ _ h112
      have k0 := k0.mono sB
      have k1 := k1.mono sB
      clear hc12 h012 h112 g12 sA rv12 rv13 hc11 h011 h111 g11
      simp only [tNext_at, tRet_at, tIfS_at, tAsg_at, tDrop_at, tPar_at, gName_at, gTupF_at, gCons_cons, gNil_nil, tVar_at, tC_at, tOp_at, tUn_at, tIf_at, tAnd_at, tOr_at, tNot_at, onB_bl, tAndV_at, tOrV_at, tB_at, tTest_at, tIsN_at, tNotN_at, tTruth_at, tCB_at, tCall_at, tCons_at, tNil_at, tTup_at, tLst_at, rI0_at, rI_at, rU_at, rEq_at, rNe_at, rIxF_at, rLenF_at, rInF_at, rTupleF_at, rIsi_at, tBM_at, iList_at, iTup_at, onL_at, onT_at, iRng1_at, rCatTF_at, tLc_at, tFor_eq, tYes_at, on_some, List.getElem?_cons_zero, List.getElem?_cons_succ, Option.join_some, List.set_cons_zero, List.set_cons_succ, List.nil_append, List.cons_append, List.append_nil, if_true, if_false, Bool.false_eq_true, reduceIte, Bool.not_true, Bool.not_false, Int.toNat_natCast]
      -- both
      rw [tSeq_at]
      simp only [tNext_at, tRet_at, tIfS_at, tAsg_at, tDrop_at, tPar_at, gName_at, gTupF_at, gCons_cons, gNil_nil, tVar_at, tC_at, tOp_at, tUn_at, tIf_at, tAnd_at, tOr_at, tNot_at, onB_bl, tAndV_at, tOrV_at, tB_at, tTest_at, tIsN_at, tNotN_at, tTruth_at, tCB_at, tCall_at, tCons_at, tNil_at, tTup_at, tLst_at, rI0_at, rI_at, rU_at, rEq_at, rNe_at, rIxF_at, rLenF_at, rInF_at, rTupleF_at, rIsi_at, tBM_at, iList_at, iTup_at, onL_at, onT_at, iRng1_at, rCatTF_at, tLc_at, tFor_eq, tYes_at, on_some, List.getElem?_cons_zero, List.getElem?_cons_succ, Option.join_some, List.set_cons_zero, List.set_cons_succ, List.nil_append, List.cons_append, List.append_nil, if_true, if_false, Bool.false_eq_true, reduceIte, Bool.not_true, Bool.not_false, Int.toNat_natCast]
      refine ⟨q0, q1, u0, u1, rfl, k0, k1, by omega, by omega, fun v15 H15 rv15 s15 => ?_⟩
      have g15 := g14.mono s15
      have hc15 := s15 _ _ hc14
      have h015 := s15 _ _ h014
      have h115 := s15 _ _ h114
      obtain ⟨lb, mb⟩ := both_ok _ q0 q1 (Nat.le_refl _) lt0 lt1
      have inb : ∀ c ∈ (cellsOf l0).filter fun c => (cellsOf l1).contains c, 0 ≤ c ∧ c ≤ 12 := fun c hc => in0 c (List.mem_filter.mp hc).1
      have eb : bothF q0 q1 = runsF ((cellsOf l0).filter fun c => (cellsOf l1).contains c).contains := lot_runs lb inb fun c => by
        rw [mb, ← capM_and, ← cap0, ← cap1]
      simp only [tNext_at, tRet_at, tIfS_at, tAsg_at, tDrop_at, tPar_at, gName_at, gTupF_at, gCons_cons, gNil_nil, tVar_at, tC_at, tOp_at, tUn_at, tIf_at, tAnd_at, tOr_at, tNot_at, onB_bl, tAndV_at, tOrV_at, tB_at, tTest_at, tIsN_at, tNotN_at, tTruth_at, tCB_at, tCall_at, tCons_at, tNil_at, tTup_at, tLst_at, rI0_at, rI_at, rU_at, rEq_at, rNe_at, rIxF_at, rLenF_at, rInF_at, rTupleF_at, rIsi_at, tBM_at, iList_at, iTup_at, onL_at, onT_at, iRng1_at, rCatTF_at, tLc_at, tFor_eq, tYes_at, on_some, List.getElem?_cons_zero, List.getElem?_cons_succ, Option.join_some, List.set_cons_zero, List.set_cons_succ, List.nil_append, List.cons_append, List.append_nil, if_true, if_false, Bool.false_eq_true, reduceIte, Bool.not_true, Bool.not_false, Int.toNat_natCast, seqAt_lst hc15, i0]
      refine ⟨⟨_, SqL.of h015⟩, lc_cells false rfl hc15 h015 h115 (by omega) fun p7 hp7 => ?_⟩
      refine ⟨.ref p7, (cellsOf l0).filter fun c => (cellsOf l1).contains c, rfl, Rep.lst upd_same (Reps.ints _), inb, fun v16 H16 rv16 s16 => ?_⟩
      rw [← eb] at rv16
      have sA := (same_upd (o := .lst (((cellsOf l0).filter fun c => if false then !(cellsOf l1).contains c else (cellsOf l1).contains c).map V.int)) hp7).trans s16
      try simp only [tNext_at, tRet_at, tIfS_at, tAsg_at, tDrop_at, tPar_at, gName_at, gTupF_at, gCons_cons, gNil_nil, tVar_at, tC_at, tOp_at, tUn_at, tIf_at, tAnd_at, tOr_at, tNot_at, onB_bl, tAndV_at, tOrV_at, tB_at, tTest_at, tIsN_at, tNotN_at, tTruth_at, tCB_at, tCall_at, tCons_at, tNil_at, tTup_at, tLst_at, rI0_at, rI_at, rU_at, rEq_at, rNe_at, rIxF_at, rLenF_at, rInF_at, rTupleF_at, rIsi_at, tBM_at, iList_at, iTup_at, onL_at, onT_at, iRng1_at, rCatTF_at, tLc_at, tFor_eq, tYes_at, on_some, List.getElem?_cons_zero, List.getElem?_cons_succ, Option.join_some, List.set_cons_zero, List.set_cons_succ, List.nil_append, List.cons_append, List.append_nil, if_true, if_false, Bool.false_eq_true, reduceIte, Bool.not_true, Bool.not_false, Int.toNat_natCast]
      refine eq_runs (rv15.mono sA) rv16 fun H17 s17 => ?_
      have g17 := g15.mono (sA.trans s17)
      simp only [tNext_at, tRet_at, tIfS_at, tAsg_at, tDrop_at, tPar_at, gName_at, gTupF_at, gCons_cons, gNil_nil, tVar_at, tC_at, tOp_at, tUn_at, tIf_at, tAnd_at, tOr_at, tNot_at, onB_bl, tAndV_at, tOrV_at, tB_at, tTest_at, tIsN_at, tNotN_at, tTruth_at, tCB_at, tCall_at, tCons_at, tNil_at, tTup_at, tLst_at, rI0_at, rI_at, rU_at, rEq_at, rNe_at, rIxF_at, rLenF_at, rInF_at, rTupleF_at, rIsi_at, tBM_at, iList_at, iTup_at, onL_at, onT_at, iRng1_at, rCatTF_at, tLc_at, tFor_eq, tYes_at, on_some, List.getElem?_cons_zero, List.getElem?_cons_succ, Option.join_some, List.set_cons_zero, List.set_cons_succ, List.nil_append, List.cons_append, List.append_nil, if_true, if_false, Bool.false_eq_true, reduceIte, Bool.not_true, Bool.not_false, Int.toNat_natCast]
      -- two stretches
      rw [tSeq_at, tAsg_at]
      simp only [tNext_at, tRet_at, tIfS_at, tAsg_at, tDrop_at, tPar_at, gName_at, gTupF_at, gCons_cons, gNil_nil, tVar_at, tC_at, tOp_at, tUn_at, tIf_at, tAnd_at, tOr_at, tNot_at, onB_bl, tAndV_at, tOrV_at, tB_at, tTest_at, tIsN_at, tNotN_at, tTruth_at, tCB_at, tCall_at, tCons_at, tNil_at, tTup_at, tLst_at, rI0_at, rI_at, rU_at, rEq_at, rNe_at, rIxF_at, rLenF_at, rInF_at, rTupleF_at, rIsi_at, tBM_at, iList_at, iTup_at, onL_at, onT_at, iRng1_at, rCatTF_at, tLc_at, tFor_eq, tYes_at, on_some, List.getElem?_cons_zero, List.getElem?_cons_succ, Option.join_some, List.set_cons_zero, List.set_cons_succ, List.nil_append, List.cons_append, List.append_nil, if_true, if_false, Bool.false_eq_true, reduceIte, Bool.not_true, Bool.not_false, Int.toNat_natCast]
      refine ⟨a, ns, t, r, rfl, g17.sq, hns, g17.tw, fun x v18 H18 a0 a1 a2 rx T18 s18 => ⟨a, ns, t, r, rfl, s18.sq g17.sq, hns, T18, fun y v19 H19 d0 d1 d2 ry T19 s19 => ⟨by show 2 ≤ sizeLine; decide, fun p8 hp8 => ?_⟩⟩⟩
      have okx : okS x := ⟨a0, a1, a2⟩
      have oky : okS y := ⟨d0, d1, d2⟩
      have sp8 := same_upd (o := .tup [v18, v19]) hp8
      have g20 := ((g17.monoT s18 T18).monoT s19 T19).mono sp8
      have rx := (Rep.monoT s19 rx).mono sp8
      have ry := ry.mono sp8
      have ht20 : (upd H19 p8 (.tup [v18, v19])) p8 = some (.tup [v18, v19]) := upd_same
      generalize upd H19 p8 (.tup [v18, v19]) = H20 at sp8 g20 rx ry ht20
      simp only [tNext_at, tRet_at, tIfS_at, tAsg_at, tDrop_at, tPar_at, gName_at, gTupF_at, gCons_cons, gNil_nil, tVar_at, tC_at, tOp_at, tUn_at, tIf_at, tAnd_at, tOr_at, tNot_at, onB_bl, tAndV_at, tOrV_at, tB_at, tTest_at, tIsN_at, tNotN_at, tTruth_at, tCB_at, tCall_at, tCons_at, tNil_at, tTup_at, tLst_at, rI0_at, rI_at, rU_at, rEq_at, rNe_at, rIxF_at, rLenF_at, rInF_at, rTupleF_at, rIsi_at, tBM_at, iList_at, iTup_at, onL_at, onT_at, iRng1_at, rCatTF_at, tLc_at, tFor_eq, tYes_at, on_some, List.getElem?_cons_zero, List.getElem?_cons_succ, Option.join_some, List.set_cons_zero, List.set_cons_succ, List.nil_append, List.cons_append, List.append_nil, if_true, if_false, Bool.false_eq_true, reduceIte, Bool.not_true, Bool.not_false, Int.toNat_natCast, tupAt_tup ht20]
      refine ⟨rfl, ?_⟩
      rw [tSeq_at, tAsg_at]
      simp only [tNext_at, tRet_at, tIfS_at, tAsg_at, tDrop_at, tPar_at, gName_at, gTupF_at, gCons_cons, gNil_nil, tVar_at, tC_at, tOp_at, tUn_at, tIf_at, tAnd_at, tOr_at, tNot_at, onB_bl, tAndV_at, tOrV_at, tB_at, tTest_at, tIsN_at, tNotN_at, tTruth_at, tCB_at, tCall_at, tCons_at, tNil_at, tTup_at, tLst_at, rI0_at, rI_at, rU_at, rEq_at, rNe_at, rIxF_at, rLenF_at, rInF_at, rTupleF_at, rIsi_at, tBM_at, iList_at, iTup_at, onL_at, onT_at, iRng1_at, rCatTF_at, tLc_at, tFor_eq, tYes_at, on_some, List.getElem?_cons_zero, List.getElem?_cons_succ, Option.join_some, List.set_cons_zero, List.set_cons_succ, List.nil_append, List.cons_append, List.append_nil, if_true, if_false, Bool.false_eq_true, reduceIte, Bool.not_true, Bool.not_false, Int.toNat_natCast]
      have top : ∀ z : S, okS z → 0 ≤ topEnd z ∧ topEnd z ≤ 1000 := fun z hz => by
        obtain ⟨f, e⟩ := z
        obtain ⟨h1, h2, h3⟩ := hz
        cases e with
        | none => simp [topEnd]
        | some e => have := h3 e rfl; simp [topEnd] at h1 h2 this ⊢; omega
      have tx := top x okx
      have ty := top y oky
      refine ⟨x, v18, rfl, rx, a0, by omega, tx.1, tx.2, fun v21 H21 rv21 s21 => ?_⟩
      obtain ⟨cx, xs, rfl, hcx, rxs⟩ := rv21.lst_of
      have := rxs.ints_of; subst this
      have lx := cover_len okx
      simp only [tNext_at, tRet_at, tIfS_at, tAsg_at, tDrop_at, tPar_at, gName_at, gTupF_at, gCons_cons, gNil_nil, tVar_at, tC_at, tOp_at, tUn_at, tIf_at, tAnd_at, tOr_at, tNot_at, onB_bl, tAndV_at, tOrV_at, tB_at, tTest_at, tIsN_at, tNotN_at, tTruth_at, tCB_at, tCall_at, tCons_at, tNil_at, tTup_at, tLst_at, rI0_at, rI_at, rU_at, rEq_at, rNe_at, rIxF_at, rLenF_at, rInF_at, rTupleF_at, rIsi_at, tBM_at, iList_at, iTup_at, onL_at, onT_at, iRng1_at, rCatTF_at, tLc_at, tFor_eq, tYes_at, on_some, List.getElem?_cons_zero, List.getElem?_cons_succ, Option.join_some, List.set_cons_zero, List.set_cons_succ, List.nil_append, List.cons_append, List.append_nil, if_true, if_false, Bool.false_eq_true, reduceIte, Bool.not_true, Bool.not_false, Int.toNat_natCast]
      refine ⟨⟨_, SqL.of hcx⟩, lc_list (K := K) (a := cx) (xs := (cover x).map V.int) (fun i ys H22 => Same H21 H22 ∧ i ≤ (cover x).length ∧ ys = (((cover x).take i).filter (cover y).contains).map V.int) ?_ ⟨Same.refl _, Nat.zero_le _, rfl⟩ ?_ ?_ ?_⟩
      · rintro i ys H22 ⟨_, hi, rfl⟩
        refine small1000 ?_
        rw [List.length_map]
        have := List.length_filter_le (cover y).contains ((cover x).take i)
        rw [List.length_take] at this
        omega
      · rintro i ys H22 ⟨s22, _⟩; exact SqL.of (s22 _ _ hcx)
      · rintro i z ys H22 hz ⟨s22, hi, rfl⟩
        rw [List.getElem?_map] at hz
        cases q : (cover x)[i]? with
        | none => rw [q] at hz; cases hz
        | some c =>
          rw [q] at hz
          cases hz
          have li : i < (cover x).length := (List.getElem?_eq_some_iff.mp q).1
          have tk : (cover x).take (i + 1) = (cover x).take i ++ [c] := by rw [List.take_add_one, q]; rfl
          have len : ((cover x).map V.int).length = (cover x).length := List.length_map ..
          simp only [lcσ, List.map_cons, List.map_nil, Option.bind_none, Option.bind_some, List.getElem?_cons_zero, List.getElem?_cons_succ, Option.join_some]
          simp only [tSeq_at, tNext_at, tRet_at, tIfS_at, tAsg_at, tDrop_at, tPar_at, gName_at, gTupF_at, gCons_cons, gNil_nil, tVar_at, tC_at, tOp_at, tUn_at, tIf_at, tAnd_at, tOr_at, tNot_at, onB_bl, tAndV_at, tOrV_at, tB_at, tTest_at, tIsN_at, tNotN_at, tTruth_at, tCB_at, tCall_at, tCons_at, tNil_at, tTup_at, tLst_at, rI0_at, rI_at, rU_at, rEq_at, rNe_at, rIxF_at, rLenF_at, rInF_at, rTupleF_at, rIsi_at, tBM_at, iList_at, iTup_at, onL_at, onT_at, iRng1_at, rCatTF_at, tLc_at, tFor_eq, tYes_at, on_some, List.getElem?_cons_zero, List.getElem?_cons_succ, Option.join_some, List.set_cons_zero, List.set_cons_succ, List.nil_append, List.cons_append, List.append_nil, if_true, if_false, Bool.false_eq_true, reduceIte, Bool.not_true, Bool.not_false, Int.toNat_natCast]
          refine ⟨keep_set (σ := [none, some v19]) (i := 0) rfl, y, v19, rfl, (ry.mono s21).mono s22, d0, by omega, ty.1, ty.2, fun v23 H23 rv23 s23 => ?_⟩
          obtain ⟨cy, ys, rfl, hcy, rys⟩ := rv23.lst_of
          have := rys.ints_of; subst this
          have inC : ∀ c : Int, inV (.int c) ((cover y).map V.int) = (cover y).contains c := fun c => inV_ints c _
          simp only [tSeq_at, tNext_at, tRet_at, tIfS_at, tAsg_at, tDrop_at, tPar_at, gName_at, gTupF_at, gCons_cons, gNil_nil, tVar_at, tC_at, tOp_at, tUn_at, tIf_at, tAnd_at, tOr_at, tNot_at, onB_bl, tAndV_at, tOrV_at, tB_at, tTest_at, tIsN_at, tNotN_at, tTruth_at, tCB_at, tCall_at, tCons_at, tNil_at, tTup_at, tLst_at, rI0_at, rI_at, rU_at, rEq_at, rNe_at, rIxF_at, rLenF_at, rInF_at, rTupleF_at, rIsi_at, tBM_at, iList_at, iTup_at, onL_at, onT_at, iRng1_at, rCatTF_at, tLc_at, tFor_eq, tYes_at, on_some, List.getElem?_cons_zero, List.getElem?_cons_succ, Option.join_some, List.set_cons_zero, List.set_cons_succ, List.nil_append, List.cons_append, List.append_nil, if_true, if_false, Bool.false_eq_true, reduceIte, Bool.not_true, Bool.not_false, Int.toNat_natCast, seqAt_lst hcy, flatV, flat_ints, inC]
          refine ⟨trivial, trivial, ?_⟩
          have fl : ((cover x).take (i + 1)).filter (cover y).contains = ((cover x).take i).filter (cover y).contains ++ (if (cover y).contains c then [c] else []) := by
            rw [tk, List.filter_append]
            congr 1
            rw [List.filter_cons]
            simp only [List.filter_nil]
          cases z : (cover y).contains c with
          | true =>
            rw [z] at fl
            simp only [tSeq_at, tNext_at, tRet_at, tIfS_at, tAsg_at, tDrop_at, tPar_at, gName_at, gTupF_at, gCons_cons, gNil_nil, tVar_at, tC_at, tOp_at, tUn_at, tIf_at, tAnd_at, tOr_at, tNot_at, onB_bl, tAndV_at, tOrV_at, tB_at, tTest_at, tIsN_at, tNotN_at, tTruth_at, tCB_at, tCall_at, tCons_at, tNil_at, tTup_at, tLst_at, rI0_at, rI_at, rU_at, rEq_at, rNe_at, rIxF_at, rLenF_at, rInF_at, rTupleF_at, rIsi_at, tBM_at, iList_at, iTup_at, onL_at, onT_at, iRng1_at, rCatTF_at, tLc_at, tFor_eq, tYes_at, on_some, List.getElem?_cons_zero, List.getElem?_cons_succ, Option.join_some, List.set_cons_zero, List.set_cons_succ, List.nil_append, List.cons_append, List.append_nil, if_true, if_false, Bool.false_eq_true, reduceIte, Bool.not_true, Bool.not_false, Int.toNat_natCast]
            exact LcN.of (by rw [len]; exact li) ⟨s22.trans s23, li, by rw [fl, List.map_append]; rfl⟩
          | false =>
            rw [z] at fl
            simp only [tSeq_at, tNext_at, tRet_at, tIfS_at, tAsg_at, tDrop_at, tPar_at, gName_at, gTupF_at, gCons_cons, gNil_nil, tVar_at, tC_at, tOp_at, tUn_at, tIf_at, tAnd_at, tOr_at, tNot_at, onB_bl, tAndV_at, tOrV_at, tB_at, tTest_at, tIsN_at, tNotN_at, tTruth_at, tCB_at, tCall_at, tCons_at, tNil_at, tTup_at, tLst_at, rI0_at, rI_at, rU_at, rEq_at, rNe_at, rIxF_at, rLenF_at, rInF_at, rTupleF_at, rIsi_at, tBM_at, iList_at, iTup_at, onL_at, onT_at, iRng1_at, rCatTF_at, tLc_at, tFor_eq, tYes_at, on_some, List.getElem?_cons_zero, List.getElem?_cons_succ, Option.join_some, List.set_cons_zero, List.set_cons_succ, List.nil_append, List.cons_append, List.append_nil, if_true, if_false, Bool.false_eq_true, reduceIte, Bool.not_true, Bool.not_false, Int.toNat_natCast]
            exact LcN.of (by rw [len]; exact li) ⟨s22.trans s23, li, by rw [fl]; simp⟩
      rintro ys H22 ⟨s22, _, rfl⟩ p9 hp9
      rw [List.length_map, List.take_of_length_le (Nat.le_refl _)]
      have sp9 := (s21.trans s22).trans (same_upd (o := .lst (((cover x).filter (cover y).contains).map V.int)) hp9)
      have g23 := g20.mono sp9
      have rx := rx.mono sp9
      have ry := ry.mono sp9
      have h9 : (upd H22 p9 (.lst (((cover x).filter (cover y).contains).map V.int))) p9 = some (.lst (((cover x).filter (cover y).contains).map V.int)) := upd_same
      generalize upd H22 p9 (.lst (((cover x).filter (cover y).contains).map V.int)) = H23 at sp9 g23 rx ry h9
      try simp only [tSeq_at, tNext_at, tRet_at, tIfS_at, tAsg_at, tDrop_at, tPar_at, gName_at, gTupF_at, gCons_cons, gNil_nil, tVar_at, tC_at, tOp_at, tUn_at, tIf_at, tAnd_at, tOr_at, tNot_at, onB_bl, tAndV_at, tOrV_at, tB_at, tTest_at, tIsN_at, tNotN_at, tTruth_at, tCB_at, tCall_at, tCons_at, tNil_at, tTup_at, tLst_at, rI0_at, rI_at, rU_at, rEq_at, rNe_at, rIxF_at, rLenF_at, rInF_at, rTupleF_at, rIsi_at, tBM_at, iList_at, iTup_at, onL_at, onT_at, iRng1_at, rCatTF_at, tLc_at, tFor_eq, tYes_at, on_some, List.getElem?_cons_zero, List.getElem?_cons_succ, Option.join_some, List.set_cons_zero, List.set_cons_succ, List.nil_append, List.cons_append, List.append_nil, if_true, if_false, Bool.false_eq_true, reduceIte, Bool.not_true, Bool.not_false, Int.toNat_natCast]
      refine ⟨x, y, v18, v19, rfl, rx, ry, ?_⟩
      try simp only [tSeq_at, tNext_at, tRet_at, tIfS_at, tAsg_at, tDrop_at, tPar_at, gName_at, gTupF_at, gCons_cons, gNil_nil, tVar_at, tC_at, tOp_at, tUn_at, tIf_at, tAnd_at, tOr_at, tNot_at, onB_bl, tAndV_at, tOrV_at, tB_at, tTest_at, tIsN_at, tNotN_at, tTruth_at, tCB_at, tCall_at, tCons_at, tNil_at, tTup_at, tLst_at, rI0_at, rI_at, rU_at, rEq_at, rNe_at, rIxF_at, rLenF_at, rInF_at, rTupleF_at, rIsi_at, tBM_at, iList_at, iTup_at, onL_at, onT_at, iRng1_at, rCatTF_at, tLc_at, tFor_eq, tYes_at, on_some, List.getElem?_cons_zero, List.getElem?_cons_succ, Option.join_some, List.set_cons_zero, List.set_cons_succ, List.nil_append, List.cons_append, List.append_nil, if_true, if_false, Bool.false_eq_true, reduceIte, Bool.not_true, Bool.not_false, Int.toNat_natCast]
      refine ⟨by decide, fun p10 hp10 => ?_⟩
      have s24 := same_upd (o := .lst []) hp10
      refine ⟨.lst (((cover x).filter (cover y).contains).map D.int), .lst [], Rep.lst (s24 _ _ h9) (Reps.ints _), Rep.lst upd_same Reps.nil, rfl, rfl, ints_dep _, ?_⟩
      rw [eqD_nil]
      refine ⟨_, _, rfl, ?_⟩
      have em : (meetsF x y == !((cover x).filter (cover y).contains).isEmpty) = true := by rw [meets_cells okx oky]; simp
      simp only [tSeq_at, tNext_at, tRet_at, tIfS_at, tAsg_at, tDrop_at, tPar_at, gName_at, gTupF_at, gCons_cons, gNil_nil, tVar_at, tC_at, tOp_at, tUn_at, tIf_at, tAnd_at, tOr_at, tNot_at, onB_bl, tAndV_at, tOrV_at, tB_at, tTest_at, tIsN_at, tNotN_at, tTruth_at, tCB_at, tCall_at, tCons_at, tNil_at, tTup_at, tLst_at, rI0_at, rI_at, rU_at, rEq_at, rNe_at, rIxF_at, rLenF_at, rInF_at, rTupleF_at, rIsi_at, tBM_at, iList_at, iTup_at, onL_at, onT_at, iRng1_at, rCatTF_at, tLc_at, tFor_eq, tYes_at, on_some, List.getElem?_cons_zero, List.getElem?_cons_succ, Option.join_some, List.set_cons_zero, List.set_cons_succ, List.nil_append, List.cons_append, List.append_nil, if_true, if_false, Bool.false_eq_true, reduceIte, Bool.not_true, Bool.not_false, Int.toNat_natCast, em]
      refine ⟨by decide, fun p11 hp11 => ⟨[], .ref p11, rfl, Rep.tup upd_same Reps.nil, fun x hx => by simp at hx, by decide, LamT.mono g23.lam (s24.trans (same_upd hp11)), fun r24 v24 H24 lt24 mm24 ln24 rv24 sP24 lam24 => ⟨by decide, fun p12 hp12 => ?_⟩⟩⟩
      obtain rfl : r24 = [] := List.length_eq_zero_iff.mp (by simpa using ln24)
      refine ⟨rowD [], rowD [], rv24.mono (same_upd hp12), Rep.tup upd_same Reps.nil, rfl, rfl, row_dep [], ?_⟩
      rw [eqD_self]
      simp only [tSeq_at, tNext_at, tRet_at, tIfS_at, tAsg_at, tDrop_at, tPar_at, gName_at, gTupF_at, gCons_cons, gNil_nil, tVar_at, tC_at, tOp_at, tUn_at, tIf_at, tAnd_at, tOr_at, tNot_at, onB_bl, tAndV_at, tOrV_at, tB_at, tTest_at, tIsN_at, tNotN_at, tTruth_at, tCB_at, tCall_at, tCons_at, tNil_at, tTup_at, tLst_at, rI0_at, rI_at, rU_at, rEq_at, rNe_at, rIxF_at, rLenF_at, rInF_at, rTupleF_at, rIsi_at, tBM_at, iList_at, iTup_at, onL_at, onT_at, iRng1_at, rCatTF_at, tLc_at, tFor_eq, tYes_at, on_some, List.getElem?_cons_zero, List.getElem?_cons_succ, Option.join_some, List.set_cons_zero, List.set_cons_succ, List.nil_append, List.cons_append, List.append_nil, if_true, if_false, Bool.false_eq_true, reduceIte, Bool.not_true, Bool.not_false, Int.toNat_natCast]
      refine ⟨by decide, fun p13 hp13 => ⟨[], .ref p13, rfl, Rep.tup upd_same Reps.nil, rfl, ?_⟩⟩
      have e13 : decide (endV (sizeF []) = V.int 0) = true := by simp [sizeF, endV]
      rw [e13]
      exact k _
end
end K2

namespace K2
open PySem L2
theorem def_mk {K : PySem.W.Frag} {h : Heap} {mg : Str → Option Value} {x : Str} {st : Stmt} {f : Addr} {oc : Value} {od an : Option Addr} {osl : Array (Option Value)} {kV doc pm cdv ct : Value} (X : K.In h) (G : h.Ns mainGlobals mg)
    (a : PySem.W.nsIn K mainGlobals x = some (some (.ref f))) (l : K.lookup f = some ⟨oc, od, .func (PySem.W.fnOf x x (defArgs st) (defBody st) (defScope st) .none kV doc pm an cdv ct), osl⟩) (c : PySem.W.codeIn K cdv x = true) (k : PySem.W.keepIn K (.ref f) = true) : Def K mg x st :=
  ⟨f, _, fun_mk l c k, PySem.W.mg_of X G a⟩
theorem defC_mk {K : PySem.W.Frag} {h : Heap} {mg : Str → Option Value} {x : Str} {st : Stmt} {f cc : Addr} {oc : Value} {od an : Option Addr} {osl : Array (Option Value)} {kV doc pm ct : Value} (X : K.In h) (G : h.Ns mainGlobals mg)
    (a : PySem.W.nsIn K mainGlobals x = some (some (.ref f))) (l : K.lookup f = some ⟨oc, od, .func (PySem.W.fnOf x x (defArgs st) (defBody st) (defScope st) .none kV doc pm an (.ref cc) ct), osl⟩) (c : PySem.W.codeIn K (.ref cc) x = true) (k : PySem.W.keepIn K (.ref f) = true) : DefC K mg x st cc :=
  ⟨f, oc, od, kV, doc, pm, an, ct, osl, l, c, k, PySem.W.mg_of X G a⟩
theorem lamK_mk {K : PySem.W.Frag} {mg : Str → Option Value} {cc T : Addr} (hd : PySem.W.codeHdIn K cc T = true) (n4 : mainGlobals ≠ T) : LamK K mg cc T :=
  ⟨fun h' X' => PySem.W.codeHd_of_K X' hd, n4⟩
theorem all_mk {l : PySem.W.OpenLaw} {w : World} {K : PySem.W.Frag} {h : Heap} {mg : Str → Option Value} {fa fL cc T : Addr} (X : K.In h) (G : h.Ns mainGlobals mg) (hfa : mg "law" = some (.ref fa))
    {oc kV doc pm cdv ct : Value} {od an : Option Addr} {osl : Array (Option Value)}
    (d1 : Def K mg "is_whole" (top 1))
    (d2 : Def K mg "is_stretch" (top 2))
    (d3 : Def K mg "is_lot" (top 3))
    (d12 : Def K mg "reaches" (top 12))
    (d5 : Def K mg "joined" (top 5))
    (d6 : Def K mg "without" (top 6))
    (d7 : Def K mg "both" (top 7))
    (d8 : Def K mg "has" (top 8))
    (d9 : Def K mg "size_of" (top 9))
    (d10 : Def K mg "meets" (top 10))
    (d11 : Def K mg "gaps_of" (top 11))
    (d13 : Def K mg "earlier_end" (top 13))
    (d14 : Def K mg "later_end" (top 14))
    (d16 : Def K mg "_law_draw" (top 16))
    (d17 : Def K mg "_law_begun" (top 17))
    (d18 : Def K mg "_law_is" (top 18))
    (d19 : Def K mg "_law_cover" (top 19))
    (d20 : Def K mg "_law_a_stretch" (top 20))
    (d21 : Def K mg "_law_runs" (top 21))
    (d22 : Def K mg "_law_all" (top 22))
    (dl : DefC K mg "lot_of" (top 4) cc) (hL : LamK K mg cc T) (hT : K.lookup T = none) (hd : PySem.W.codeHdIn K cc T = true)
    (m_len : PySem.W.nsIn K mainGlobals "len" = some none)
    (m_isinstance : PySem.W.nsIn K mainGlobals "isinstance" = some none)
    (m_int : PySem.W.nsIn K mainGlobals "int" = some none)
    (m_bool : PySem.W.nsIn K mainGlobals "bool" = some none)
    (m_tuple : PySem.W.nsIn K mainGlobals "tuple" = some none)
    (m_list : PySem.W.nsIn K mainGlobals "list" = some none)
    (m_range : PySem.W.nsIn K mainGlobals "range" = some none)
    (m_zip : PySem.W.nsIn K mainGlobals "zip" = some none)
    (m_min : PySem.W.nsIn K mainGlobals "min" = some none)
    (m_max : PySem.W.nsIn K mainGlobals "max" = some none)
    (m_sorted : PySem.W.nsIn K mainGlobals "sorted" = some none)
    (m_set : PySem.W.nsIn K mainGlobals "set" = some none)
    (aL : PySem.W.nsIn K mainGlobals "law" = some (some (.ref fL))) (lL : K.lookup fL = some ⟨oc, od, .func (PySem.W.fnOf "law" "law" (defArgs (top 23)) (defBody (top 23)) (defScope (top 23)) .none kV doc pm an cdv ct), osl⟩) (cL : PySem.W.codeIn K cdv "law" = true) (kL : PySem.W.keepIn K (.ref fL) = true) :
    K.lookup T = none ∧ (∃ c, PySem.W.codeHdIn K c T = true) ∧ ∃ fd : FuncData, (∀ (s : Shared) (v : Value), BindsTo s fd ⟨[v], []⟩ [("_law_script", v)]) ∧ ∀ base : Heap, K.In base → base.Ns mainGlobals mg → base.BuiltinsAt mg T → FnOk l.prog w K mg base CX0 5 fa fd ["_law_script"] (spLaw K T) := by
  have e := hfa.symm.trans (PySem.W.mg_of X G aL)
  cases e
  have M : Mods mg := ⟨PySem.W.mg_none_of X G m_len, PySem.W.mg_none_of X G m_isinstance, PySem.W.mg_none_of X G m_int, PySem.W.mg_none_of X G m_bool, PySem.W.mg_none_of X G m_tuple, PySem.W.mg_none_of X G m_list, PySem.W.mg_none_of X G m_range, PySem.W.mg_none_of X G m_zip, PySem.W.mg_none_of X G m_min, PySem.W.mg_none_of X G m_max, PySem.W.mg_none_of X G m_sorted, PySem.W.mg_none_of X G m_set⟩
  refine ⟨hT, ⟨cc, hd⟩, PySem.W.fnOf "law" "law" (defArgs (top 23)) (defBody (top 23)) (defScope (top 23)) .none kV doc pm an cdv ct, fun s v => .of_eq rfl, fun base _ _ hB => ?_⟩
  have cw := ok_whole (P := l.prog) (w := w) (base := base) d1 M
  have cs := ok_stretch d2 M cw
  have cr := ok_reaches (P := l.prog) (w := w) (base := base) d12 M
  have cl := ok_lot d3 M cs cr
  have cd := ok_draw (P := l.prog) (w := w) (base := base) d16 M
  have ca := ok_astr d20 M cd
  have cla := ok_later (P := l.prog) (w := w) (base := base) d14 M
  have cea := ok_earlier (P := l.prog) (w := w) (base := base) d13 M
  have cme := ok_meets d10 M cea
  have cga := ok_gaps (P := l.prog) (w := w) (base := base) d11 M
  have cbo := ok_both d7 M cea cme
  have cwo := ok_without d6 M cga cbo
  have clo := ok_lotof dl M hL hB cr cla
  have cjo := ok_joined d5 M clo.cal
  have cco := ok_cover (P := l.prog) (w := w) (base := base) d19 M
  have cal := ok_all d22 M cco
  exact ok_law (fun_mk lL cL kL) M cd (ok_begun d17 M) (ok_is d18 M) ca cco (ok_runs d21 M) cal cl clo (ok_size d9 M) (ok_has d8 M) cjo cwo cbo cme
theorem walk {l : PySem.W.OpenLaw} {q : Program} {loose : List Str} {XP : (Str → Option Value) → Heap → Prop} {YP : World → Heap → Prop} {d : DefRec} {K : Params → PySem.W.Frag} {T : Addr} (hn : l.most = some 63) (hdf : d.params.defaults = [])
    (hY : ∀ (w : World) (h : Heap), YP w h → (K w.params).In h ∧ h.get? T = some (PySem.W.tabObj #[]))
    (F : ∀ (w : World) (mg : Str → Option Value) (fa : Addr) (h : Heap), (K w.params).In h → h.Ns mainGlobals mg → mg d.name = some (.ref fa) →
      (K w.params).lookup T = none ∧ (∃ c, PySem.W.codeHdIn (K w.params) c T = true) ∧ ∃ fd : FuncData, (∀ (s : Shared) (u : Value), BindsTo s fd ⟨[u], []⟩ [("_law_script", u)]) ∧ ∀ base : Heap, (K w.params).In base → base.Ns mainGlobals mg → base.BuiltinsAt mg T → FnOk l.prog w (K w.params) mg base CX0 5 fa fd ["_law_script"] (spLaw (K w.params) T)) :
    PySem.W.WalkO q loose XP YP l.row.toRowW d [] (fun f vs => PySem.call f vs) :=
  L2.walk_ofT (n := 63) (k := 5) (x := "_law_script") (T := T) (sp := fun w => spLaw (K w.params) T) hn (by decide) hdf ⟨rfl, by decide, by decide⟩ hY F fun _ _ a ns hl hS hT => ⟨a, ns, rfl, hS, hl, ⟨#[], hT, trivial, .inl rfl⟩, fun _ => rfl⟩
end K2
open PySem PySem.W PyProof.Rows
set_option maxRecDepth 100000 in
set_option maxHeartbeats 0 in
theorem PySem.Challenge.cw_lockstretch_k01_lots_holds : PySem.Challenge.rw_lockstretch_k01_lots.Holds := by
  w_on; o_law; k_head; (case hw => w_witness2)
  k_fill
  refine K2.walk (l := PySem.Challenge.rw_lockstretch_k01_lots) (T := 37) rfl rfl (fun w h Y => ⟨PySem.W.km_in_of Y, PySem.W.km_tabs_of Y _ (List.Mem.head _)⟩) ?F
  case F =>
    intro w mg fa h KX G hmg
    refine' K2.all_mk (T := 37) KX G hmg (K2.def_mk KX G ?a1 ?l1 ?c1 ?k1) (K2.def_mk KX G ?a2 ?l2 ?c2 ?k2) (K2.def_mk KX G ?a3 ?l3 ?c3 ?k3) (K2.def_mk KX G ?a12 ?l12 ?c12 ?k12) (K2.def_mk KX G ?a5 ?l5 ?c5 ?k5) (K2.def_mk KX G ?a6 ?l6 ?c6 ?k6) (K2.def_mk KX G ?a7 ?l7 ?c7 ?k7) (K2.def_mk KX G ?a8 ?l8 ?c8 ?k8) (K2.def_mk KX G ?a9 ?l9 ?c9 ?k9) (K2.def_mk KX G ?a10 ?l10 ?c10 ?k10) (K2.def_mk KX G ?a11 ?l11 ?c11 ?k11) (K2.def_mk KX G ?a13 ?l13 ?c13 ?k13) (K2.def_mk KX G ?a14 ?l14 ?c14 ?k14) (K2.def_mk KX G ?a16 ?l16 ?c16 ?k16) (K2.def_mk KX G ?a17 ?l17 ?c17 ?k17) (K2.def_mk KX G ?a18 ?l18 ?c18 ?k18) (K2.def_mk KX G ?a19 ?l19 ?c19 ?k19) (K2.def_mk KX G ?a20 ?l20 ?c20 ?k20) (K2.def_mk KX G ?a21 ?l21 ?c21 ?k21) (K2.def_mk KX G ?a22 ?l22 ?c22 ?k22) (K2.defC_mk KX G ?aQ ?lQ ?cQ ?kQ) (K2.lamK_mk ?hd1 ?n4) ?hT ?hd2 ?m_len ?m_isinstance ?m_int ?m_bool ?m_tuple ?m_list ?m_range ?m_zip ?m_min ?m_max ?m_sorted ?m_set ?aL ?lL ?cL ?kL
    (case a1 => k_is); (case l1 => k_is); (case c1 => k_is); (case k1 => k_is)
    (case a2 => k_is); (case l2 => k_is); (case c2 => k_is); (case k2 => k_is)
    (case a3 => k_is); (case l3 => k_is); (case c3 => k_is); (case k3 => k_is)
    (case a12 => k_is); (case l12 => k_is); (case c12 => k_is); (case k12 => k_is)
    (case a5 => k_is); (case l5 => k_is); (case c5 => k_is); (case k5 => k_is)
    (case a6 => k_is); (case l6 => k_is); (case c6 => k_is); (case k6 => k_is)
    (case a7 => k_is); (case l7 => k_is); (case c7 => k_is); (case k7 => k_is)
    (case a8 => k_is); (case l8 => k_is); (case c8 => k_is); (case k8 => k_is)
    (case a9 => k_is); (case l9 => k_is); (case c9 => k_is); (case k9 => k_is)
    (case a10 => k_is); (case l10 => k_is); (case c10 => k_is); (case k10 => k_is)
    (case a11 => k_is); (case l11 => k_is); (case c11 => k_is); (case k11 => k_is)
    (case a13 => k_is); (case l13 => k_is); (case c13 => k_is); (case k13 => k_is)
    (case a14 => k_is); (case l14 => k_is); (case c14 => k_is); (case k14 => k_is)
    (case a16 => k_is); (case l16 => k_is); (case c16 => k_is); (case k16 => k_is)
    (case a17 => k_is); (case l17 => k_is); (case c17 => k_is); (case k17 => k_is)
    (case a18 => k_is); (case l18 => k_is); (case c18 => k_is); (case k18 => k_is)
    (case a19 => k_is); (case l19 => k_is); (case c19 => k_is); (case k19 => k_is)
    (case a20 => k_is); (case l20 => k_is); (case c20 => k_is); (case k20 => k_is)
    (case a21 => k_is); (case l21 => k_is); (case c21 => k_is); (case k21 => k_is)
    (case a22 => k_is); (case l22 => k_is); (case c22 => k_is); (case k22 => k_is)
    (case aQ => k_is); (case lQ => k_is); (case cQ => k_is); (case kQ => k_is)
    (case m_len => k_is)
    (case m_isinstance => k_is)
    (case m_int => k_is)
    (case m_bool => k_is)
    (case m_tuple => k_is)
    (case m_list => k_is)
    (case m_range => k_is)
    (case m_zip => k_is)
    (case m_min => k_is)
    (case m_max => k_is)
    (case m_sorted => k_is)
    (case m_set => k_is)
    (case aL => k_is); (case lL => k_is); (case cL => k_is); (case kL => k_is)
    (case hd1 => first | kernel_rfl | exact rfl); (case hd2 => first | kernel_rfl | exact rfl); (case hT => first | kernel_rfl | exact rfl)
    (case n4 => decide)

