import PyProof.Rows.All
import Wide.All
import OpenK.AllK
import Wide.FinOn
import PyProof.EqAt
import PyProof.EqKinds
import PyProof.TupleCall
import Lean
import PySem.Challenge.RW_foretell_k17_a_book
set_option Elab.async false
set_option linter.all false
set_option maxRecDepth 100000
set_option maxHeartbeats 4000000
namespace L2
open PySem PySem.Spec PyProof.Rows

/-- a key: an int or a str -/
abbrev Key := Sum Int Str
def keyIs : Key → Value → Bool
  | .inl k, v => Value.isInt k v
  | .inr x, v => Value.isStrOf x v
def keyH (w : World) : Key → Int
  | .inl k => hashInt k
  | .inr x => hashStr w x
theorem keyIs_shape : ∀ {k : Key} {v : Value}, keyIs k v = true → (∃ i t, k = Sum.inl i ∧ v = Value.int i t) ∨ (∃ x t, k = Sum.inr x ∧ v = Value.str x t)
  | .inl i, v, h => by
    obtain ⟨t, e⟩ := Value.isInt_shape (k := i) (v := v) h
    exact .inl ⟨i, t, rfl, e⟩
  | .inr x, v, h => by
    obtain ⟨t, e⟩ := Value.isStrOf_shape (x := x) (v := v) h
    exact .inr ⟨x, t, rfl, e⟩
theorem keyIs_int (i : Int) (t : Tok) : keyIs (.inl i) (.int i t) = true := by simp [keyIs, Value.isInt]
theorem keyIs_str (x : Str) (t : Tok) : keyIs (.inr x) (.str x t) = true := by simp [keyIs, Value.isStrOf]
theorem key_ll (a b : Int) : decide ((Sum.inl a : Key) = Sum.inl b) = (a == b) := by
  by_cases e : a = b
  · subst e; simp
  · have h : ¬ (Sum.inl a : Key) = Sum.inl b := fun q => e (Sum.inl.inj q)
    rw [decide_eq_false h]
    exact (beq_eq_false_iff_ne.mpr e).symm
theorem key_rr (a b : Str) : decide ((Sum.inr a : Key) = Sum.inr b) = decide (a = b) := by
  by_cases e : a = b
  · subst e; simp
  · have h : ¬ (Sum.inr a : Key) = Sum.inr b := fun q => e (Sum.inr.inj q)
    rw [decide_eq_false h, decide_eq_false e]
theorem key_lr (a : Int) (b : Str) : decide ((Sum.inl a : Key) = Sum.inr b) = false := decide_eq_false (fun q => nomatch q)
theorem key_rl (a : Str) (b : Int) : decide ((Sum.inr a : Key) = Sum.inl b) = false := decide_eq_false (fun q => nomatch q)

def mixKind (prog : Program) (w : World) : PySem.KeyKind prog w Key where
  is := keyIs
  hash := keyH w
  inj := fun v a b ha hb => by
    rcases keyIs_shape ha with ⟨i, t, rfl, rfl⟩ | ⟨x, t, rfl, rfl⟩
    · rcases keyIs_shape hb with ⟨j, u, rfl, e⟩ | ⟨y, u, rfl, e⟩
      · injection e with e1 _; rw [e1]
      · exact nomatch e
    · rcases keyIs_shape hb with ⟨j, u, rfl, e⟩ | ⟨y, u, rfl, e⟩
      · exact nomatch e
      · injection e with e1 _; rw [e1]
  byValue := fun k v h => by
    rcases keyIs_shape h with ⟨i, t, rfl, rfl⟩ | ⟨x, t, rfl, rfl⟩ <;> rfl
  pyHash := fun hv h => by
    rcases keyIs_shape hv with ⟨i, t, rfl, rfl⟩ | ⟨x, t, rfl, rfl⟩
    · exact wpAny_pyHash_int h
    · exact wpAny_pyHash_str h
  eqBool := fun hu hv h => by
    rcases keyIs_shape hu with ⟨i, t, rfl, rfl⟩ | ⟨x, t, rfl, rfl⟩
    · rcases keyIs_shape hv with ⟨j, u, rfl, rfl⟩ | ⟨y, u, rfl, rfl⟩
      · rw [key_ll] at h; exact wpAny_eqBool_int h
      · rw [key_lr] at h; exact SeqAt.EqAt.int_str i t y u _ _ _ _ h
    · rcases keyIs_shape hv with ⟨j, u, rfl, rfl⟩ | ⟨y, u, rfl, rfl⟩
      · rw [key_rl] at h; exact SeqAt.EqAt.str_int x t j u _ _ _ _ h
      · rw [key_rr] at h; exact wpAny_eqBool_str h
  «strs» := fun k x t v h => by
    rcases keyIs_shape h with ⟨i, u, rfl, e⟩ | ⟨y, u, rfl, e⟩
    · exact nomatch e
    · injection e with e1 _
      subst e1
      cases v <;> rfl

theorem mixKind_int (prog : Program) (w : World) (i : Int) (t : Tok) : (mixKind prog w).is (.inl i) (.int i t) = true := keyIs_int i t
theorem mixKind_str (prog : Program) (w : World) (x : Str) (t : Tok) : (mixKind prog w).is (.inr x) (.str x t) = true := keyIs_str x t
end L2

namespace L2
open PySem PySem.Spec PyProof.Rows

/-- a value, without the heap -/
inductive V where
  | non | bl (b : Bool) | int (i : Int) | str (x : Str) | byt (b : Array UInt8) | flt (b : UInt64) | ref (a : Addr) | ty (n : String)
  deriving DecidableEq

def RelV : V → Value → Prop
  | .non, u => u = Value.none
  | .bl b, u => u = Value.bool b
  | .int i, u => ∃ t, u = Value.int i t
  | .str x, u => ∃ t, u = Value.str x t
  | .byt b, u => ∃ t, u = Value.bytes b t
  | .flt b, u => ∃ t, u = Value.float b t
  | .ref a, u => u = Value.ref a
  | .ty n, u => u = Value.type n

abbrev Vals : List V → List Value → Prop := Paired RelV
theorem Vals.length {xs : List V} {us : List Value} (r : Vals xs us) : xs.length = us.length := Paired.length r
theorem Vals.get : ∀ {xs : List V} {us : List Value} {i : Nat} {x : V}, Vals xs us → xs[i]? = some x → ∃ u, us[i]? = some u ∧ RelV x u
  | _, _, _, _, .nil, e => by simp at e
  | _, _, 0, _, .cons r _, e => by simp at e; subst e; exact ⟨_, rfl, r⟩
  | _, _, i + 1, x, .cons _ t, e => by
    obtain ⟨u, h1, h2⟩ := Vals.get (i := i) (x := x) t (by simpa using e)
    exact ⟨u, by simpa using h1, h2⟩
theorem Vals.set {x : V} {u : Value} (r : RelV x u) : ∀ {xs : List V} {us : List Value} (i : Nat), Vals xs us → Vals (xs.set i x) (us.set i u)
  | _, _, _, .nil => .nil
  | _, _, 0, .cons _ t => .cons r t
  | _, _, i + 1, .cons q t => .cons q (Vals.set r i t)
theorem Vals.append : ∀ {xs ys : List V} {us ws : List Value}, Vals xs us → Vals ys ws → Vals (xs ++ ys) (us ++ ws)
  | _, _, _, _, .nil, s => s
  | _, _, _, _, .cons r t, s => .cons r (Vals.append t s)
theorem Vals.take : ∀ {xs : List V} {us : List Value} (n : Nat), Vals xs us → Vals (xs.take n) (us.take n)
  | _, _, 0, _ => .nil
  | _, _, _ + 1, .nil => .nil
  | _, _, n + 1, .cons r t => .cons r (Vals.take n t)
theorem Vals.drop : ∀ {xs : List V} {us : List Value} (n : Nat), Vals xs us → Vals (xs.drop n) (us.drop n)
  | _, _, 0, r => r
  | _, _, _ + 1, .nil => .nil
  | _, _, n + 1, .cons _ t => Vals.drop n t
theorem Vals.none_of : ∀ {xs : List V} {us : List Value} {i : Nat}, Vals xs us → xs[i]? = none → us[i]? = none := fun {xs us i} r e => by
  have h1 := r.length
  have h2 : xs.length ≤ i := List.getElem?_eq_none_iff.mp e
  exact List.getElem?_eq_none_iff.mpr (by omega)

def RelO : Option V → Option Value → Prop
  | some v, some u => RelV v u
  | none, none => True
  | _, _ => False
def KV {κ : Type} : List (κ × V) → List (κ × Value) → Prop := Paired fun (p : κ × V) (q : κ × Value) => p.1 = q.1 ∧ RelV p.2 q.2

/-- a key of a dict (00_mix): an int or a text -/
def kV : Key → V
  | .inl i => .int i
  | .inr x => .str x

/-- what stands at a tracked address -/
inductive HO where
  /-- a list -/
  | lst (xs : List V)
  /-- a tuple (never changes) -/
  | tup (xs : List V)
  /-- a dict whose keys are ints and texts; one whose keys are tuples of ints and texts (the empty one is both) -/
  | dK (kvs : List (Key × V)) | dT (kvs : List (List Key × V))
  /-- a set of ints: its members, its size -/
  | set (S : Int → Bool) (n : Nat)
  /-- an instance of the class at C, its dict at dx, its attributes -/
  | ins (C dx : Addr) (fs : List (Str × V))
  /-- the dict of the instance at x -/
  | own (x : Addr)
  /-- the dict of an exception -/
  | xd (fs : List (Str × V))
  /-- a bound method, f of x -/
  | met (f x : Addr)
  /-- a range object lo, lo + 1, .. below hi -/
  | rng (lo hi : Int)
  /-- a thing that is known to the object (the script; a dict while a loop walks it): read, never written while it is so -/
  | frz (o : Obj) (u : HO)
  /-- a code object's table -/
  | tbl (ps : Array Value)
  /-- any other thing, by what is true of its one object (a def of one's own: SetO a S n := HO.ext fun h => ..) -/
  | ext (φ : Heap → Prop)

abbrev Hp := Addr → Option HO
def upd (H : Hp) (a : Addr) (o : HO) : Hp := fun b => if b = a then some o else H b
theorem upd_same {H : Hp} {a : Addr} {o : HO} : upd H a o a = some o := by unfold upd; rw [if_pos rfl]
theorem upd_ne {H : Hp} {a b : Addr} {o : HO} (h : b ≠ a) : upd H a o b = H b := by unfold upd; rw [if_neg h]
theorem upd_upd {H : Hp} {a : Addr} {o u : HO} : upd (upd H a o) a u = upd H a u := by
  funext b; unfold upd; split <;> rfl
/-- two objects of different content stand apart -/
theorem ne_of {H : Hp} {a b : Addr} {o u : HO} (h : H a = some o) (h' : H b = some u) (d : o ≠ u) : a ≠ b := by
  intro e; subst e; rw [h] at h'; exact d (Option.some.inj h')
theorem ne_of_none {H : Hp} {a b : Addr} {o : HO} (h : H a = some o) (h' : H b = none) : a ≠ b := by
  intro e; subst e; rw [h] at h'; cases h'

section
variable (P : Program) (w : World)
def ObjOk (H : Hp) (h : Heap) (a : Addr) : HO → Prop
  | .lst xs => xs.length ≤ sizeLine ∧ ∃ (its : List Value) (n : Nat), Vals xs its ∧ h.get? a = some { cls := .type "list", data := .seq its.toArray n }
  | .tup xs => xs.length ≤ sizeLine ∧ ∃ its : List Value, Vals xs its ∧ IsTup h a its.toArray
  | .dK kvs => kvs.length ≤ sizeLine ∧ (a == sysModules) = false ∧ ∃ vs, KV kvs vs ∧ h.DictOf (mixKind P w) a vs
  | .dT kvs => kvs.length ≤ sizeLine ∧ (a == sysModules) = false ∧ ∃ xs : List (List Key × Addr × Value),
      Paired (fun (p : List Key × V) (q : List Key × Addr × Value) => p.1 = q.1 ∧ H q.2.1 = some (.tup (p.1.map kV)) ∧ RelV p.2 q.2.2) kvs xs ∧
      ∃ o es ep, h.get? a = some o ∧ o.ExactDict ∧ o.data = .dict es ep ∧ es.toList = xs.map (entryOfKey (tupleKind (mixKind P w))) ∧ (xs.map (·.1)).Nodup
  | .set S n => h.SetOf (intKind P w) a S n
  | .ins C dx fs => H dx = some (.own a) ∧ fs.length ≤ 1000 ∧ dx ≠ a ∧ h.get? a = some (PySem.W.instObj C dx) ∧
      ∃ mA, h.Ns1 dx mA ∧ (∀ f, RelO (fs.lookup f) (mA f)) ∧ PySem.Within mA (fs.map (·.1))
  | .own _ => ∃ o, h.get? a = some o
  | .xd fs => ∃ mA, h.Ns1 a mA ∧ ∀ f, RelO (fs.lookup f) (mA f)
  | .rng lo hi => ∃ t u v, h.get? a = some { cls := .type "range", data := .fields #[.int lo t, .int hi u, .int 1 v] }
  | .frz o u => h.get? a = some o ∧ ObjOk H h a u
  | .tbl ps => h.get? a = some { cls := .none, data := .fields ps }
  | .met f x => h.get? a = some (PySem.W.methodObj (.ref f) (.ref x))
  | .ext φ => φ h ∧ (∃ o, h.get? a = some o) ∧ ∀ h1 h2 : Heap, φ h1 → (∀ o, h1.get? a = some o → h2.get? a = some o) → φ h2
/-- the abstract heap is held -/
def HOk (H : Hp) (h : Heap) : Prop := ∀ a o, H a = some o → ObjOk P w H h a o
end

section
variable {P : Program} {w : World} {H H' : Hp} {h h' : Heap} {a : Addr} {o : HO}
theorem ObjOk.lt (x : ObjOk P w H h a o) : a < h.objs.size := by
  cases o with
  | lst xs => obtain ⟨_, _, _, _, e⟩ := x; exact Heap.lt_size e
  | tup xs => obtain ⟨_, _, _, p⟩ := x; exact p.lt
  | dK kvs => obtain ⟨_, _, _, _, o, _, _, e, _⟩ := x; exact Heap.lt_size e
  | dT kvs => obtain ⟨_, _, _, _, o, _, _, e, _⟩ := x; exact Heap.lt_size e
  | set S n => obtain ⟨o, _, _, _, e, _⟩ := x; exact Heap.lt_size e
  | ins C dx fs => obtain ⟨_, _, _, e, _⟩ := x; exact Heap.lt_size e
  | own y => obtain ⟨_, e⟩ := x; exact Heap.lt_size e
  | xd fs => obtain ⟨_, ⟨_, _, _, e, _⟩, _⟩ := x; exact Heap.lt_size e
  | rng lo hi => obtain ⟨_, _, _, e⟩ := x; exact Heap.lt_size e
  | frz ob u => obtain ⟨e, _⟩ := x; exact Heap.lt_size e
  | tbl ps => exact Heap.lt_size (show h.get? a = some _ from x)
  | met f y => exact Heap.lt_size (show h.get? a = some _ from x)
  | ext φ => obtain ⟨_, ⟨_, e⟩, _⟩ := x; exact Heap.lt_size e
theorem Paired.mapP {α β : Type} {F G : α → β → Prop} : ∀ {l₁ : List α} {l₂ : List β}, Paired F l₁ l₂ → (∀ a b, F a b → G a b) → Paired G l₁ l₂
  | _, _, .nil, _ => .nil
  | _, _, .cons r t, f => .cons (f _ _ r) (Paired.mapP t f)
/-- what an object's description leans on: its own object, its own dict, the tuples -/
theorem ObjOk.stay (x : ObjOk P w H h a o) (k : ∀ b u, (b = a ∨ H b = some (.own a)) → h.get? b = some u → h'.get? b = some u)
    (ho : ∀ b, H b = some (.own a) → H' b = some (.own a)) (ht : ∀ b xs, H b = some (.tup xs) → H' b = some (.tup xs)) : ObjOk P w H' h' a o := by
  induction o with
  | lst xs => obtain ⟨z, its, n, r, e⟩ := x; exact ⟨z, its, n, r, k _ _ (.inl rfl) e⟩
  | tup xs => obtain ⟨z, its, r, ob, e, c⟩ := x; exact ⟨z, its, r, ob, k _ _ (.inl rfl) e, c⟩
  | dK kvs => obtain ⟨z, y, vs, r, ob, es, ep, e, c⟩ := x; exact ⟨z, y, vs, r, ob, es, ep, k _ _ (.inl rfl) e, c⟩
  | dT kvs =>
    obtain ⟨z, y, xs, r, ob, es, ep, e, c⟩ := x
    exact ⟨z, y, xs, Paired.mapP r fun p q z => ⟨z.1, ht _ _ z.2.1, z.2.2⟩, ob, es, ep, k _ _ (.inl rfl) e, c⟩
  | set S n => obtain ⟨ob, es, ep, t, e, c⟩ := x; exact ⟨ob, es, ep, t, k _ _ (.inl rfl) e, c⟩
  | ins C dx fs =>
    obtain ⟨d, z, ne, e, mA, ⟨od, es, ep, e2, c⟩, r⟩ := x
    exact ⟨ho _ d, z, ne, k _ _ (.inl rfl) e, mA, ⟨od, es, ep, k _ _ (.inr d) e2, c⟩, r⟩
  | own y => obtain ⟨ob, e⟩ := x; exact ⟨ob, k _ _ (.inl rfl) e⟩
  | xd fs => obtain ⟨mA, ⟨od, es, ep, e, c⟩, r⟩ := x; exact ⟨mA, ⟨od, es, ep, k _ _ (.inl rfl) e, c⟩, r⟩
  | rng lo hi => obtain ⟨t, u, v, e⟩ := x; exact ⟨t, u, v, k _ _ (.inl rfl) e⟩
  | frz ob u ih => obtain ⟨e, q⟩ := x; exact ⟨k _ _ (.inl rfl) e, ih q⟩
  | tbl ps =>
    have e : h.get? a = some { cls := .none, data := .fields ps } := x
    show h'.get? a = some { cls := .none, data := .fields ps }
    exact k a _ (.inl rfl) e
  | met f y =>
    have e : h.get? a = some (PySem.W.methodObj (.ref f) (.ref y)) := x
    show h'.get? a = some (PySem.W.methodObj (.ref f) (.ref y))
    exact k a _ (.inl rfl) e
  | ext φ => obtain ⟨p, ⟨o, e⟩, st⟩ := x; exact ⟨st _ _ p fun o q => k _ _ (.inl rfl) q, ⟨o, k _ _ (.inl rfl) e⟩, st⟩
theorem HOk.lt (x : HOk P w H h) (e : H a = some o) : a < h.objs.size := (x a o e).lt
theorem HOk.fresh (x : HOk P w H h) (e : h.objs.size ≤ a) : H a = none := by
  cases q : H a with
  | none => rfl
  | some u => exact absurd (Nat.lt_of_lt_of_le (x.lt q) e) (Nat.lt_irrefl _)
/-- every object of the heap is kept -/
theorem HOk.kept (x : HOk P w H h) (k : ∀ b u, h.get? b = some u → h'.get? b = some u) : HOk P w H h' := fun a o e =>
  (x a o e).stay (fun b u _ q => k b u q) (fun _ q => q) fun _ _ q => q
/-- a new object is laid and tracked -/
theorem HOk.laid (x : HOk P w H h) (k : ∀ b u, h.get? b = some u → h'.get? b = some u) (hp : h.objs.size ≤ a) (new : ObjOk P w (upd H a o) h' a o) : HOk P w (upd H a o) h' := fun b u e => by
  have hn := x.fresh hp
  by_cases hb : b = a
  · subst hb; rw [upd_same] at e; cases e; exact new
  · rw [upd_ne hb] at e
    exact (x b u e).stay (fun c v _ q => k c v q) (fun c q => by rw [upd_ne (ne_of_none q hn)]; exact q) fun c xs q => by rw [upd_ne (ne_of_none q hn)]; exact q
end

/-- what may be read as u: it is u, or a known u -/
def Rd (H : Hp) (a : Addr) (u : HO) : Prop := H a = some u ∨ ∃ o, H a = some (.frz o u)
theorem Rd.of {H : Hp} {a : Addr} {u : HO} (h : H a = some u) : Rd H a u := .inl h
theorem Rd.ok {P : Program} {w : World} {H : Hp} {h : Heap} {a : Addr} {u : HO} (r : Rd H a u) (x : HOk P w H h) : ObjOk P w H h a u := by
  rcases r with r | ⟨o, r⟩
  · exact x a u r
  · obtain ⟨_, q⟩ := x a _ r
    exact q
/-- what may be written -/
def Mut : Option HO → Prop
  | some (.lst _) => True
  | some (.dK _) => True
  | some (.dT _) => True
  | some (.set _ _) => True
  | some (.ins _ _ _) => True
  | some (.ext _) => True
  | _ => False
section
variable {P : Program} {w : World} {H : Hp} {h h' : Heap} {x e : Addr} {o' : HO}
/-- the object at e is changed: x itself, or the dict of the instance x -/
theorem HOk.write (ok : HOk P w H h) (mu : Mut (H x)) (he : e = x ∨ H e = some (.own x)) (k : ∀ b u, b ≠ e → h.get? b = some u → h'.get? b = some u) (heo : ∃ u, h'.get? e = some u)
    (new : ObjOk P w (upd H x o') h' x o') : HOk P w (upd H x o') h' := fun b u q => by
  have nown : ∀ c y, H c = some (.own y) → c ≠ x := fun c y r z => by subst z; rw [r] at mu; exact mu
  have ntup : ∀ c xs, H c = some (.tup xs) → c ≠ x := fun c xs r z => by subst z; rw [r] at mu; exact mu
  by_cases hb : b = x
  · subst hb; rw [upd_same] at q; cases q; exact new
  · rw [upd_ne hb] at q
    by_cases hbe : b = e
    · have q' : H b = some (.own x) := by
        rcases he with z | z
        · exact absurd (hbe.trans z) hb
        · rw [hbe]; exact z
      rw [q] at q'; cases q'
      obtain ⟨v, hv⟩ := heo
      exact ⟨v, by rw [hbe]; exact hv⟩
    · refine (ok b u q).stay (fun c v hc r => k c v ?_ r) (fun c r => by rw [upd_ne (nown c b r)]; exact r) fun c xs r => by rw [upd_ne (ntup c xs r)]; exact r
      rcases hc with rfl | hc
      · exact hbe
      · rintro rfl
        rcases he with z | z
        · exact nown c b hc z
        · rw [hc] at z; cases z; exact hb rfl
end

/-! ### kept unless tracked; of the frames at fs (the callers') the slots may change (an exception that passes writes there); of the records at ex (iterators) nothing is said -/
structure Un (fs ex : List Addr) (H H' : Hp) (h h' : Heap) : Prop where
  keep : ∀ b o, h.get? b = some o → H b = none → b ∉ fs → b ∉ ex → h'.get? b = some o
  slot : ∀ b o, h.get? b = some o → H b = none → b ∈ fs → b ∉ ex → ∃ sl, h'.get? b = some { o with slots := sl }
  free : ∀ b o, h.get? b = some o → H b = none → b ∉ ex → H' b = none
  there : ∀ b o, h.get? b = some o → b ∉ ex → ∃ o', h'.get? b = some o'
  tups : ∀ b xs, H b = some (.tup xs) → H' b = some (.tup xs)
  frzs : ∀ b o u, H b = some (.frz o u) → H' b = some (.frz o u)
  tbls : ∀ b ps, H b = some (.tbl ps) → ∃ more, H' b = some (.tbl (ps ++ more))
section
variable {fs fs' ex ex' : List Addr} {H H1 H2 : Hp} {h h1 h2 h' : Heap} {a x e : Addr} {o : HO}
theorem Un.any (u : Un fs ex H H1 h h1) {b : Addr} {ob : Obj} (q : h.get? b = some ob) (n : H b = none) (hx : b ∉ ex) : ∃ sl, h1.get? b = some { ob with slots := sl } := by
  by_cases hb : b ∈ fs
  · exact u.slot b ob q n hb hx
  · exact ⟨ob.slots, u.keep b ob q n hb hx⟩
theorem Un.trans (a : Un fs ex H H1 h h1) (b : Un fs ex H1 H2 h1 h2) : Un fs ex H H2 h h2 where
  keep := fun c ob q n hc hx => b.keep c ob (a.keep c ob q n hc hx) (a.free c ob q n hx) hc hx
  slot := fun c ob q n hc hx => by
    obtain ⟨sl, e1⟩ := a.slot c ob q n hc hx
    obtain ⟨sl', e2⟩ := b.slot c _ e1 (a.free c ob q n hx) hc hx
    exact ⟨sl', e2⟩
  free := fun c ob q n hx => by
    obtain ⟨o', e1⟩ := a.there c ob q hx
    exact b.free c o' e1 (a.free c ob q n hx) hx
  there := fun c ob q hx => by
    obtain ⟨o', e1⟩ := a.there c ob q hx
    exact b.there c o' e1 hx
  tups := fun c xs q => b.tups c xs (a.tups c xs q)
  frzs := fun c ob xs q => b.frzs c ob xs (a.frzs c ob xs q)
  tbls := fun c ps q => by
    obtain ⟨m1, e1⟩ := a.tbls c ps q
    obtain ⟨m2, e2⟩ := b.tbls c _ e1
    exact ⟨m1 ++ m2, by rw [e2, Array.append_assoc]⟩
theorem Un.kept (k : ∀ b u, h.get? b = some u → h'.get? b = some u) : Un fs ex H H h h' :=
  ⟨fun b ob q _ _ _ => k b ob q, fun b ob q _ _ _ => ⟨ob.slots, k b ob q⟩, fun _ _ _ n _ => n, fun b ob q _ => ⟨ob, k b ob q⟩, fun _ _ q => q, fun _ _ _ q => q, fun _ ps q => ⟨#[], by rw [q]; simp⟩⟩
theorem Un.refl : Un fs ex H H h h := Un.kept fun _ _ q => q
theorem Un.laid (k : ∀ b u, h.get? b = some u → h'.get? b = some u) (hp : h.objs.size ≤ a) (hn : H a = none) : Un fs ex H (upd H a o) h h' where
  keep := fun b u q _ _ _ => k b u q
  slot := fun b u q _ _ _ => ⟨u.slots, k b u q⟩
  free := fun b u q n _ => by rw [upd_ne (Nat.ne_of_lt (Nat.lt_of_lt_of_le (Heap.lt_size q) hp))]; exact n
  there := fun b u q _ => ⟨u, k b u q⟩
  tups := fun b xs q => by rw [upd_ne (ne_of_none q hn)]; exact q
  frzs := fun b u xs q => by rw [upd_ne (ne_of_none q hn)]; exact q
  tbls := fun b ps q => ⟨#[], by rw [upd_ne (ne_of_none q hn), q]; simp⟩
theorem Un.write (mu : Mut (H x)) (he : e = x ∨ H e = some (.own x)) (k : ∀ b u, b ≠ e → h.get? b = some u → h'.get? b = some u) (heo : ∃ u, h'.get? e = some u) : Un fs ex H (upd H x o) h h' := by
  have hx : ∀ b, H b = none → b ≠ x := fun b n z => by subst z; rw [n] at mu; exact mu
  have hb : ∀ b, H b = none → b ≠ e := fun b n z => by
    subst z
    rcases he with r | r
    · exact hx b n r
    · rw [n] at r; cases r
  have hm : ∀ b u, H b = some u → ¬ Mut (some u) → b ≠ x := fun b u q nm z => by subst z; rw [q] at mu; exact nm mu
  refine ⟨fun b u q n _ _ => k b u (hb b n) q, fun b u q n _ _ => ⟨u.slots, k b u (hb b n) q⟩, fun b u q n _ => by rw [upd_ne (hx b n)]; exact n, fun b u q _ => ?_,
    fun b xs q => by rw [upd_ne (hm b _ q fun z => z)]; exact q, fun b u xs q => by rw [upd_ne (hm b _ q fun z => z)]; exact q, fun b ps q => ⟨#[], by rw [upd_ne (hm b _ q fun z => z), q]; simp⟩⟩
  by_cases hbe : b = e
  · subst hbe; exact heo
  · exact ⟨u, k b u hbe q⟩
theorem Un.mono (u : Un fs ex H H1 h h1) (hs : ∀ b ∈ fs, b ∈ fs') (hx : ∀ b ∈ ex, b ∈ ex') : Un fs' ex' H H1 h h1 :=
  ⟨fun b ob q n hb he => u.keep b ob q n (fun z => hb (hs b z)) fun z => he (hx b z), fun _ _ q n _ he => u.any q n fun z => he (hx _ z), fun b ob q n he => u.free b ob q n fun z => he (hx b z), fun b ob q he => u.there b ob q fun z => he (hx b z), u.tups, u.frzs, u.tbls⟩
end

/-! ### the heap without what is tracked -/
def trk (h : Heap) (H : Hp) : List Addr := (List.range h.objs.size).filter fun a => (H a).isSome
def hidT (h : Heap) (H : Hp) : Heap := PySem.W.hideAll h (trk h H)
theorem hidT_size (h : Heap) (H : Hp) : (hidT h H).objs.size = h.objs.size := PySem.W.hideAll_size _ _
theorem hidT_get {h : Heap} {H : Hp} {b : Addr} {o : Obj} (e : h.get? b = some o) (n : H b = none) : (hidT h H).get? b = some o :=
  PySem.W.hideAll_get _ e fun hm => by
    have q : (H b).isSome = true := (List.mem_filter.mp hm).2
    rw [n] at q; simp at q
theorem of_hidT {h : Heap} {H : Hp} {b : Addr} {o : Obj} (e : (hidT h H).get? b = some o) : h.get? b = some o ∧ H b = none := by
  have e' : h.get? b = some o := PySem.W.of_hideAll (trk h H) e
  refine ⟨e', ?_⟩
  cases q : H b with
  | none => rfl
  | some x =>
    have hm : b ∈ trk h H := List.mem_filter.mpr ⟨List.mem_range.mpr (Heap.lt_size e'), by simp [q]⟩
    have z : (hidT h H).get? b = none := PySem.W.hideAll_none (trk h H) hm
    rw [z] at e; cases e

/-! ### OpenK's ledger, filled with every new object but one -/
def allNews (g h : Heap) (L : Addr) : List (Addr × Obj) := (List.range h.objs.size).filterMap fun a => if a = L ∨ (g.get? a).isSome = true then none else (h.get? a).map fun o => (a, o)
def rest (g h : Heap) (L d : Addr) : List (Addr × Obj) := (allNews g h L).filter fun p => decide (p.1 ≠ d)
end L2

namespace L2
open PySem PySem.Spec PyProof.Rows

/-- the module's facts, over the base: the heap at the law's entry without what is tracked there -/
structure Mod (K : PySem.W.Frag) (mg : Str → Option Value) (base : Heap) : Prop where
  kin : K.In base
  glob : base.Ns mainGlobals mg
  blt : ∃ mb, base.Ns builtinsNs mb ∧ ∀ x : Str, x ≠ "__name__" → mb x = bootBuiltins x
  nolimit : base.NoLimit

/-- the context: a def's body (or a comprehension's block) running. base: fixed through the whole law; s₀, H₀: the entry; outer: the frames whose slots others may change (a def's callers); stack: all frames that run;
   ex: iterators that were made ahead of the entry and are walked here (a comprehension's); fn: the names whose cells were made at the entry (a def: all; a comprehension's block: its own); calm: not within an except suite; pn: pins that every state bears; xe: what is wanted of an exception that leaves the code -/
structure Cx where
  prog : Program
  w : World
  K : PySem.W.Frag
  mg : Str → Option Value
  base : Heap
  A : Around
  N : List Str
  s₀ : Shared
  H₀ : Hp
  env : Env
  outer : List Env
  stack : List Env
  ex : List Addr
  fn : Str → Bool
  calm : Bool
  pn : List (Addr × Obj)
  xe : Value → Shared → Prop
/-- the callers' frames -/
def frs (l : List Env) : List Addr := l.filterMap (·.frame)
abbrev Cx.fs (X : Cx) : List Addr := frs X.outer

def Vis (sc : Scope) (x : Str) : Prop := sc.names.lookup x = some .local ∨ sc.names.lookup x = some .cell ∨ sc.names.lookup x = some .free
def Loc (sc : Scope) (x : Str) : Prop := sc.names.lookup x = some .local ∨ sc.names.lookup x = some .cell
def Look (env : Env) (h : Heap) (m : Str → Option Value) (x : Str) (u : Value) : Prop :=
  (env.kindOf x = some .local ∧ m x = some u) ∨ ((env.kindOf x = some .cell ∨ env.kindOf x = some .free) ∧ ∃ c, env.cells.lookup x = some c ∧ h.IsCell c (some u))

structure Cx.Ok (X : Cx) : Prop where
  mod : Mod X.K X.mg X.base
  kind : X.env.scope.kind = .function
  glob : X.env.globals = mainGlobals
  blt : X.env.builtins = builtinsNs
  above : X.s₀.heap.objs.size ≤ X.env.locals
  inj : ∀ x y c, X.env.cells.lookup x = some c → X.env.cells.lookup y = some c → x = y
  has : ∀ x, (X.env.kindOf x = some .cell ∨ X.env.kindOf x = some .free) → ∃ c, X.env.cells.lookup x = some c
  cab : ∀ x c, X.fn x = true → X.env.cells.lookup x = some c → X.s₀.heap.objs.size ≤ c
  hd : X.calm = true → X.A.handled = none
  frames : X.A.frames = some X.stack
  stk : X.stack = X.outer ∨ (X.stack = X.env :: X.outer ∧ X.env.frame = some X.env.locals)
  exf : ∀ b ∈ X.ex, b ≠ X.env.locals ∧ ∀ x c, X.env.cells.lookup x = some c → c ≠ b
  bs : ∀ b o, X.base.get? b = some o → X.s₀.heap.get? b = some o ∧ X.H₀ b = none
  bsz : X.base.objs.size ≤ X.s₀.heap.objs.size
  noex : ∀ b o, X.base.get? b = some o → b ∉ X.ex
  exfs : ∀ b ∈ X.ex, b ∉ X.fs
  funs : X.s₀.heap.FunFrames X.base X.outer
  frf : ∀ b ∈ X.fs, X.H₀ b = none

structure Inv (X : Cx) (pins : List (Addr × Obj)) (σ : List (Option V)) (H : Hp) (s : Shared) : Prop where
  ok : X.Ok
  os : s.os = X.s₀.os
  bare : AllBare s.gens
  base : Un X.fs X.ex X.H₀ H X.s₀.heap s.heap
  loc : ∃ m, s.heap.Ns X.env.locals m ∧ ∀ (i : Nat) (x : Str) (v : V), X.N[i]? = some x → σ[i]? = some (some v) → Vis X.env.scope x → ∃ u, RelV v u ∧ Look X.env s.heap m x u
  cell : ∀ x c, X.env.cells.lookup x = some c → ∃ v, s.heap.IsCell c v
  free : H X.env.locals = none
  freeC : ∀ x c, X.env.cells.lookup x = some c → H c = none
  pin : ∀ p ∈ X.pn ++ pins, s.heap.get? p.1 = some p.2 ∧ H p.1 = none ∧ p.1 ≠ X.env.locals ∧ p.1 ∉ X.fs ∧ ∀ v, p.2.data ≠ .cell v
  hok : HOk X.prog X.w H s.heap
  len : σ.length = X.N.length

section
variable {X : Cx} {pins : List (Addr × Obj)} {σ : List (Option V)} {H H' : Hp} {s : Shared} {h' : Heap}

theorem Cx.Ok.nofr (ok : X.Ok) {b : Addr} {o : Obj} (e : X.base.get? b = some o) : b ∉ X.fs := fun hb => by
  have := (ok.funs.mem hb).1
  rw [e] at this; cases this
theorem Inv.bs (I : Inv X pins σ H s) : ∀ b o, X.base.get? b = some o → s.heap.get? b = some o ∧ H b = none := fun b o e =>
  ⟨I.base.keep b o (I.ok.bs b o e).1 (I.ok.bs b o e).2 (I.ok.nofr e) (I.ok.noex b o e), I.base.free b o (I.ok.bs b o e).1 (I.ok.bs b o e).2 (I.ok.noex b o e)⟩
theorem Inv.bk (I : Inv X pins σ H s) : ∀ b o, X.base.get? b = some o → s.heap.get? b = some o := fun b o e => (I.bs b o e).1
theorem Inv.mod (I : Inv X pins σ H s) : Mod X.K X.mg X.base := I.ok.mod
theorem Inv.kIn (I : Inv X pins σ H s) : X.K.In s.heap := I.ok.mod.kin.keeps I.bk
theorem Inv.nolimit (I : Inv X pins σ H s) : s.heap.NoLimit := I.ok.mod.nolimit.keeps I.bk
/-- the frame over the base: for OpenK's rules (K.In X.base is I.mod.kin) -/
theorem Inv.fr (I : Inv X pins σ H s) : ∃ m, Fr X.base X.env.locals s.heap m :=
  let ⟨m, hn, _⟩ := I.loc
  ⟨m, hn, I.bk, Nat.le_trans I.ok.bsz I.ok.above⟩
theorem Inv.lt (I : Inv X pins σ H s) : X.env.locals < s.heap.objs.size := let ⟨_, hn, _⟩ := I.loc; hn.lt
theorem Inv.sz (I : Inv X pins σ H s) : X.s₀.heap.objs.size ≤ s.heap.objs.size := Nat.le_trans I.ok.above (Nat.le_of_lt I.lt)
theorem Inv.nofs (I : Inv X pins σ H s) {a : Addr} (h : s.heap.objs.size ≤ a) : a ∉ X.fs := fun hb => by
  obtain ⟨_, o, ho, _⟩ := I.ok.funs.mem hb
  exact absurd (Nat.lt_of_lt_of_le (Heap.lt_size ho) (Nat.le_trans I.sz h)) (Nat.lt_irrefl _)
theorem Inv.cne (I : Inv X pins σ H s) : ∀ x c, X.env.cells.lookup x = some c → c ≠ X.env.locals := fun x c e z => by
  obtain ⟨v, o, ho, hd⟩ := I.cell x c e
  obtain ⟨m, ⟨o', es, ep, ho', hd', _⟩, _⟩ := I.loc
  rw [z, ho'] at ho; cases ho; rw [hd'] at hd; cases hd
theorem Inv.funs (I : Inv X pins σ H s) : s.heap.FunFrames X.base X.outer := by
  have all : ∀ (l : List Env), (∀ b ∈ frs l, b ∈ X.fs) → X.s₀.heap.FunFrames X.base l → s.heap.FunFrames X.base l := by
    intro l
    induction l with
    | nil => intro _ _; trivial
    | cons env r ih =>
      intro hs hl
      obtain ⟨hk, ⟨L, o, hf, hn, ho, hd⟩, hr⟩ := hl
      have hL : L ∈ X.fs := hs L (by unfold frs; rw [List.filterMap_cons, hf]; exact List.mem_cons_self)
      obtain ⟨sl, e⟩ := I.base.slot L o ho (I.ok.frf L hL) hL fun z => I.ok.exfs L z hL
      exact ⟨hk, ⟨L, _, hf, hn, e, hd⟩, ih (fun b hb => hs b (by unfold frs; rw [List.filterMap_cons, hf]; exact List.mem_cons_of_mem _ hb)) hr⟩
  exact all X.outer (fun _ hb => hb) I.ok.funs

/-- the frames that run, for a call -/
theorem Inv.stack (I : Inv X pins σ H s) : s.heap.FunFrames X.base X.stack := by
  rcases I.ok.stk with e | ⟨e, hf⟩
  · rw [e]; exact I.funs
  · rw [e]
    obtain ⟨m, hn, _⟩ := I.loc
    refine .cons (by rw [I.ok.kind]; decide) hf hn ?_ I.funs
    exact Heap.get?_none_of_le (Nat.le_trans I.ok.bsz I.ok.above)
theorem Inv.stkSub (I : Inv X pins σ H s) : ∀ b ∈ frs X.stack, b ∈ X.env.locals :: X.fs := fun b hb => by
  rcases I.ok.stk with e | ⟨e, hf⟩
  · rw [e] at hb; exact List.mem_cons_of_mem _ hb
  · rw [e] at hb
    unfold frs at hb
    rw [List.filterMap_cons, hf] at hb
    exact hb
theorem Inv.stkFree (I : Inv X pins σ H s) : ∀ b ∈ frs X.stack, H b = none := fun b hb => by
  rcases List.mem_cons.mp (I.stkSub b hb) with e | hb
  · rw [e]; exact I.free
  · obtain ⟨_, o, ho, _⟩ := I.ok.funs.mem hb
    exact I.base.free b o ho (I.ok.frf b hb) fun z => I.ok.exfs b z hb

/-- THE STEP: the untracked objects but the frame and the records at ch are kept (the callers' frames up to slots), the frame's map is kept, the new abstract heap is held -/
theorem Inv.step {g' : Array GenState} {t' : Nat} {d' : Drawn} {ch : List Addr} (I : Inv X pins σ H s)
    (hch : ∀ b ∈ ch, (b ∈ X.ex ∨ X.s₀.heap.objs.size ≤ b) ∧ b ≠ X.env.locals ∧ (∀ x c, X.env.cells.lookup x = some c → c ≠ b) ∧ ∀ p ∈ X.pn ++ pins, p.1 ≠ b)
    (keep : ∀ b o, b ≠ X.env.locals → b ∉ X.fs → b ∉ ch → s.heap.get? b = some o → H b = none → h'.get? b = some o)
    (slot : ∀ b o, b ≠ X.env.locals → b ∈ X.fs → b ∉ ch → s.heap.get? b = some o → H b = none → ∃ sl, h'.get? b = some { o with slots := sl }) (free : ∀ b o, b ∉ ch → s.heap.get? b = some o → H b = none → H' b = none)
    (there : ∀ b o, b ∉ ch → s.heap.get? b = some o → ∃ o', h'.get? b = some o')
    (tups : ∀ b xs, H b = some (.tup xs) → H' b = some (.tup xs)) (frzs : ∀ b o u, H b = some (.frz o u) → H' b = some (.frz o u)) (tbls : ∀ b ps, H b = some (.tbl ps) → ∃ more, H' b = some (.tbl (ps ++ more)))
    (ns : ∀ m, s.heap.Ns X.env.locals m → h'.Ns X.env.locals m) (hok : HOk X.prog X.w H' h') (hg : AllBare g') :
    Inv X pins σ H' { s with heap := h', gens := g', drawn := d', toks := t' } := by
  have neL : ∀ b o, X.s₀.heap.get? b = some o → b ≠ X.env.locals := fun b o e => Nat.ne_of_lt (Nat.lt_of_lt_of_le (Heap.lt_size e) I.ok.above)
  have neC : ∀ b o, X.s₀.heap.get? b = some o → b ∉ X.ex → b ∉ ch := fun b o e hx hb => by
    rcases (hch b hb).1 with z | z
    · exact hx z
    · exact absurd (Nat.lt_of_lt_of_le (Heap.lt_size e) z) (Nat.lt_irrefl _)
  have cellK : ∀ x c, X.env.cells.lookup x = some c → ∀ v, s.heap.IsCell c v → h'.IsCell c v := fun x c e v ⟨o, ho, hd⟩ => by
    have nch : c ∉ ch := fun z => (hch c z).2.2.1 x c e rfl
    by_cases hc : c ∈ X.fs
    · obtain ⟨sl, q⟩ := slot c o (I.cne x c e) hc nch ho (I.freeC x c e)
      exact ⟨_, q, hd⟩
    · exact ⟨o, keep c o (I.cne x c e) hc nch ho (I.freeC x c e), hd⟩
  refine ⟨I.ok, I.os, hg, ⟨fun b o e n hb hx => ?_, fun b o e n hb hx => ?_, fun b o e n hx => ?_, fun b o e hx => ?_, fun b xs e => tups b xs (I.base.tups b xs e), fun b o xs e => frzs b o xs (I.base.frzs b o xs e), fun b ps e => ?_⟩, ?_, fun x c e => ?_, ?_, fun x c e => ?_, fun p hp => ?_, hok, I.len⟩
  · exact keep b o (neL b o e) hb (neC b o e hx) (I.base.keep b o e n hb hx) (I.base.free b o e n hx)
  · obtain ⟨sl, e1⟩ := I.base.slot b o e n hb hx
    obtain ⟨sl', e2⟩ := slot b _ (neL b o e) hb (neC b o e hx) e1 (I.base.free b o e n hx)
    exact ⟨sl', e2⟩
  · obtain ⟨o', e1⟩ := I.base.there b o e hx
    exact free b o' (neC b o e hx) e1 (I.base.free b o e n hx)
  · obtain ⟨o', e1⟩ := I.base.there b o e hx
    exact there b o' (neC b o e hx) e1
  · obtain ⟨m1, e1⟩ := I.base.tbls b ps e
    obtain ⟨m2, e2⟩ := tbls b _ e1
    exact ⟨m1 ++ m2, by rw [e2, Array.append_assoc]⟩
  · obtain ⟨m, hn, hl⟩ := I.loc
    refine ⟨m, ns m hn, fun i x v e1 e2 e3 => ?_⟩
    obtain ⟨u, r, l⟩ := hl i x v e1 e2 e3
    refine ⟨u, r, ?_⟩
    rcases l with l | ⟨k, c, e, z⟩
    · exact .inl l
    · exact .inr ⟨k, c, e, cellK x c e _ z⟩
  · obtain ⟨v, z⟩ := I.cell x c e
    exact ⟨v, cellK x c e v z⟩
  · obtain ⟨m, ⟨o, _, _, ho, _⟩, _⟩ := I.loc
    exact free _ o (fun z => (hch _ z).2.1 rfl) ho I.free
  · obtain ⟨v, o, ho, hd⟩ := I.cell x c e
    exact free c o (fun z => (hch c z).2.2.1 x c e rfl) ho (I.freeC x c e)
  · obtain ⟨e, n, ne, nf, d⟩ := I.pin p hp
    have nch : p.1 ∉ ch := fun z => (hch p.1 z).2.2.2 p hp rfl
    exact ⟨keep p.1 p.2 ne nf nch e n, free p.1 p.2 nch e n, ne, nf, d⟩
/-- .. where the frame's own object is kept too -/
theorem Inv.un {t' : Nat} (I : Inv X pins σ H s) (u : Un X.fs [] H H' s.heap h') (hok : HOk X.prog X.w H' h') : Inv X pins σ H' { s with heap := h', toks := t' } := by
  obtain ⟨m, ⟨o, es, ep, ho, r⟩, _⟩ := id I.loc
  obtain ⟨sl, hL⟩ := u.any ho I.free (by simp)
  exact I.step (g' := s.gens) (d' := s.drawn) (ch := []) (fun _ z => nomatch z) (fun b o _ hb _ e n => u.keep b o e n hb (by simp)) (fun b o _ hb _ e n => u.slot b o e n hb (by simp)) (fun b o _ e n => u.free b o e n (by simp)) (fun b o _ e => u.there b o e (by simp)) u.tups u.frzs u.tbls (fun m' hm => by
    obtain ⟨o', es', ep', ho', r'⟩ := hm
    rw [ho] at ho'; cases ho'
    exact ⟨_, es', ep', hL, r'⟩) hok I.bare
/-- behind a call (or a comprehension's block): the slots of this frame may have changed too, the records at ch may have turned -/
theorem Inv.call {g' : Array GenState} {t' : Nat} {d' : Drawn} {ch : List Addr} (I : Inv X pins σ H s) (u : Un (frs X.stack) ch H H' s.heap h') (hok : HOk X.prog X.w H' h') (hg : AllBare g')
    (hch : ∀ b ∈ ch, (b ∈ X.ex ∨ X.s₀.heap.objs.size ≤ b) ∧ b ≠ X.env.locals ∧ (∀ x c, X.env.cells.lookup x = some c → c ≠ b) ∧ ∀ p ∈ X.pn ++ pins, p.1 ≠ b) :
    Inv X pins σ H' { s with heap := h', gens := g', drawn := d', toks := t' } := by
  obtain ⟨m, ⟨o, es, ep, ho, r⟩, _⟩ := id I.loc
  obtain ⟨sl, hL⟩ := u.any ho I.free fun z => (hch _ z).2.1 rfl
  exact I.step (ch := ch) hch (fun b o hL hb hc e n => u.keep b o e n (fun z => (List.mem_cons.mp (I.stkSub b z)).elim hL hb) hc) (fun b o _ _ hc e n => u.any e n hc) (fun b o hc e n => u.free b o e n hc) (fun b o hc e => u.there b o e hc) u.tups u.frzs u.tbls (fun m' hm => by
    obtain ⟨o', es', ep', ho', r'⟩ := hm
    rw [ho] at ho'; cases ho'
    exact ⟨_, es', ep', hL, r'⟩) hok hg
/-- an untracked record of ours (an iterator) has turned -/
theorem Inv.turned {t' : Nat} {it : Addr} (I : Inv X pins σ H s) (k : ∀ b o, b ≠ it → s.heap.get? b = some o → h'.get? b = some o) (hn : H it = none) (hL : it ≠ X.env.locals)
    (h1 : it ∈ X.ex ∨ X.s₀.heap.objs.size ≤ it) (h2 : ∀ x c, X.env.cells.lookup x = some c → c ≠ it) (h3 : ∀ p ∈ X.pn ++ pins, p.1 ≠ it) : Inv X pins σ H { s with heap := h', toks := t' } := by
  have nit : ∀ b u, H b = some u → b ≠ it := fun b u e z => by rw [z, hn] at e; cases e
  refine I.step (g' := s.gens) (d' := s.drawn) (ch := [it]) (fun b hb => ?_) (fun b o _ _ hc e _ => k b o (fun z => hc (by simp [z])) e) (fun b o _ _ hc e _ => ⟨o.slots, k b o (fun z => hc (by simp [z])) e⟩) (fun _ _ _ _ n => n)
    (fun b o hc e => ⟨o, k b o (fun z => hc (by simp [z])) e⟩) (fun _ _ e => e) (fun _ _ _ e => e) (fun b ps e => ⟨#[], by rw [e]; simp⟩) (fun m hm => ?_) (fun b u e => ?_) I.bare
  · have e : b = it := by simpa using hb
    subst e
    exact ⟨h1, hL, h2, h3⟩
  · obtain ⟨o, es, ep, ho, r⟩ := hm
    exact ⟨o, es, ep, k _ o (Ne.symm hL) ho, r⟩
  · refine (I.hok b u e).stay (fun c v hc q => k c v ?_ q) (fun _ q => q) fun _ _ q => q
    rcases hc with z | z
    · rw [z]; exact nit b u e
    · exact nit c _ z
theorem Inv.tok (I : Inv X pins σ H s) (t : Nat) : Inv X pins σ H { s with toks := t } := I.un (h' := s.heap) (t' := t) Un.refl I.hok
/-- all objects kept -/
theorem Inv.kept {t' : Nat} (I : Inv X pins σ H s) (k : ∀ b u, s.heap.get? b = some u → h'.get? b = some u) : Inv X pins σ H { s with heap := h', toks := t' } := I.un (Un.kept k) (I.hok.kept k)
/-- a new object laid and tracked -/
theorem Inv.laid {a : Addr} {o : HO} {t' : Nat} (I : Inv X pins σ H s) (k : ∀ b u, s.heap.get? b = some u → h'.get? b = some u) (hp : s.heap.objs.size ≤ a) (new : ObjOk X.prog X.w (upd H a o) h' a o) :
    Inv X pins σ (upd H a o) { s with heap := h', toks := t' } := I.un (Un.laid k hp (I.hok.fresh hp)) (I.hok.laid k hp new)
/-- an object written -/
theorem Inv.write {x e : Addr} {o : HO} {t' : Nat} (I : Inv X pins σ H s) (mu : Mut (H x)) (he : e = x ∨ H e = some (.own x)) (k : ∀ b u, b ≠ e → s.heap.get? b = some u → h'.get? b = some u) (heo : ∃ u, h'.get? e = some u)
    (new : ObjOk X.prog X.w (upd H x o) h' x o) : Inv X pins σ (upd H x o) { s with heap := h', toks := t' } := I.un (Un.write mu he k heo) (I.hok.write mu he k heo new)
theorem Inv.pins_of {pins' : List (Addr × Obj)} (I : Inv X pins σ H s) (h : ∀ p ∈ pins', s.heap.get? p.1 = some p.2 ∧ H p.1 = none ∧ p.1 ≠ X.env.locals ∧ p.1 ∉ X.fs ∧ ∀ v, p.2.data ≠ .cell v) : Inv X pins' σ H s :=
  ⟨I.ok, I.os, I.bare, I.base, I.loc, I.cell, I.free, I.freeC, fun p hp => (List.mem_append.mp hp).elim (fun z => I.pin p (List.mem_append_left _ z)) (h p), I.hok, I.len⟩

theorem nodup_ix {N : List Str} (hN : N.Nodup) {i j : Nat} {x : Str} (a : N[i]? = some x) (b : N[j]? = some x) : i = j := by
  obtain ⟨h1, e1⟩ := List.getElem?_eq_some_iff.mp a
  obtain ⟨h2, e2⟩ := List.getElem?_eq_some_iff.mp b
  exact (List.getElem_inj hN).mp (e1.trans e2.symm)

/-- a name is stored; what changed -/
theorem store_ok2 {M : Model} {A : Around} {E : Value → Shared → Prop} {i : Nat} {x : Str} {v : V} {u : Value} {Q : Unit → Shared → Prop} (I : Inv X pins σ H s) (hN : X.N.Nodup) (hi : X.N[i]? = some x) (hx : Loc X.env.scope x) (r : RelV v u)
    (h : ∀ s', Inv X pins (σ.set i (some v)) H s' → (∃ a, Heap.SameBut a s.heap s'.heap ∧ (a = X.env.locals ∨ X.env.cells.lookup x = some a)) → Q () s') (hf : X.fn x = true ∨ X.env.scope.names.lookup x = some .local := by first | exact .inl rfl | exact .inr rfl | assumption) : wpAny M A (storeName X.env x u) Q E s := by
  obtain ⟨m, hn, hl⟩ := id I.loc
  have hcls : (X.env.scope.kind == .class || (X.env.scope.kind == .module && X.env.locals != X.env.globals)) = false := by rw [I.ok.kind]; rfl
  have hiσ : i < σ.length := by rw [I.len]; exact (List.getElem?_eq_some_iff.mp hi).1
  have cne := I.cne
  have tracked : ∀ {a : Addr} {h' : Heap}, (∃ o, s.heap.get? a = some o ∧ H a = none) → Heap.SameBut a s.heap h' → HOk X.prog X.w H h' := fun {a h'} ha hs b ob e => by
    obtain ⟨_, _, hfree⟩ := ha
    refine (I.hok b ob e).stay (fun c w' hc q => (hs.2 c ?_).trans q) (fun _ q => q) fun _ _ q => q
    rintro rfl
    rcases hc with rfl | hc
    · rw [hfree] at e; cases e
    · rw [hfree] at hc; cases hc
  rcases hx with hk | hk
  · refine wpAny_storeName_local hk hn (fun h' hn' hs => ?_) hcls
    obtain ⟨oL, _, _, hoL, _⟩ := id hn
    refine h _ ⟨I.ok, I.os, I.bare, ⟨fun b o e n hb hx => ?_, fun b o e n hb hx => ?_, I.base.free, fun b o e hx => ?_, I.base.tups, I.base.frzs, I.base.tbls⟩, ⟨_, hn', fun j y v' e1 e2 e3 => ?_⟩, fun y c e => ?_, I.free, I.freeC, fun p hp => ?_, tracked ⟨oL, hoL, I.free⟩ hs, by simpa using I.len⟩ ⟨_, hs, .inl rfl⟩
    · exact (hs.2 b (Nat.ne_of_lt (Nat.lt_of_lt_of_le (Heap.lt_size e) I.ok.above))).trans (I.base.keep b o e n hb hx)
    · obtain ⟨sl, e1⟩ := I.base.slot b o e n hb hx
      exact ⟨sl, (hs.2 b (Nat.ne_of_lt (Nat.lt_of_lt_of_le (Heap.lt_size e) I.ok.above))).trans e1⟩
    · obtain ⟨o', e1⟩ := I.base.there b o e hx
      exact ⟨o', (hs.2 b (Nat.ne_of_lt (Nat.lt_of_lt_of_le (Heap.lt_size e) I.ok.above))).trans e1⟩
    · by_cases hj : j = i
      · subst hj
        rw [hi] at e1; cases e1
        rw [List.getElem?_set_self hiσ] at e2
        cases e2
        exact ⟨u, r, .inl ⟨hk, by simp⟩⟩
      · rw [List.getElem?_set_ne (Ne.symm hj)] at e2
        obtain ⟨u', r', q⟩ := hl j y v' e1 e2 e3
        refine ⟨u', r', ?_⟩
        rcases q with ⟨k, e⟩ | ⟨k, c, e, z⟩
        · refine .inl ⟨k, ?_⟩
          have : y ≠ x := fun e => hj (nodup_ix hN e1 (e ▸ hi))
          simp [this, e]
        · exact .inr ⟨k, c, e, z.sameBut hs (cne y c e)⟩
    · obtain ⟨w', z⟩ := I.cell y c e
      exact ⟨w', z.sameBut hs (cne y c e)⟩
    · obtain ⟨e, n, ne, nf, d⟩ := I.pin p hp
      exact ⟨(hs.2 p.1 ne).trans e, n, ne, nf, d⟩
  · have hfn : X.fn x = true := by
      rcases hf with z | z
      · exact z
      · rw [z] at hk; cases hk
    obtain ⟨c, hc⟩ := I.ok.has x (.inl hk)
    obtain ⟨w', z⟩ := I.cell x c hc
    refine wpAny_storeName_cell I.ok.kind hk hc z (fun h' hc' hs => ?_)
    obtain ⟨oc, hoc, hocd⟩ := id z
    refine h { s with heap := h' } ⟨I.ok, I.os, I.bare, ⟨fun b o e n hb hx => ?_, fun b o e n hb hx => ?_, I.base.free, fun b o e hx => ?_, I.base.tups, I.base.frzs, I.base.tbls⟩, ⟨m, hn.sameBut hs (Ne.symm (cne x c hc)), fun j y v' e1 e2 e3 => ?_⟩, fun y c' e => ?_, I.free, I.freeC, fun p hp => ?_, tracked ⟨oc, hoc, I.freeC x c hc⟩ hs, by simpa using I.len⟩ ⟨c, hs, .inr hc⟩
    · exact (hs.2 b (Nat.ne_of_lt (Nat.lt_of_lt_of_le (Heap.lt_size e) (I.ok.cab x c hfn hc)))).trans (I.base.keep b o e n hb hx)
    · obtain ⟨sl, e1⟩ := I.base.slot b o e n hb hx
      exact ⟨sl, (hs.2 b (Nat.ne_of_lt (Nat.lt_of_lt_of_le (Heap.lt_size e) (I.ok.cab x c hfn hc)))).trans e1⟩
    · obtain ⟨o', e1⟩ := I.base.there b o e hx
      exact ⟨o', (hs.2 b (Nat.ne_of_lt (Nat.lt_of_lt_of_le (Heap.lt_size e) (I.ok.cab x c hfn hc)))).trans e1⟩
    · by_cases hj : j = i
      · subst hj
        rw [hi] at e1; cases e1
        rw [List.getElem?_set_self hiσ] at e2
        cases e2
        exact ⟨u, r, .inr ⟨.inl hk, c, hc, hc'⟩⟩
      · rw [List.getElem?_set_ne (Ne.symm hj)] at e2
        obtain ⟨u', r', q⟩ := hl j y v' e1 e2 e3
        refine ⟨u', r', ?_⟩
        rcases q with q | ⟨k, c', e, z'⟩
        · exact .inl q
        · refine .inr ⟨k, c', e, z'.sameBut hs ?_⟩
          rintro rfl
          exact hj (nodup_ix hN e1 (I.ok.inj _ _ _ e hc ▸ hi))
    · by_cases hcc : c' = c
      · subst hcc; exact ⟨_, hc'⟩
      · obtain ⟨w2, z2⟩ := I.cell y c' e
        exact ⟨w2, z2.sameBut hs hcc⟩
    · obtain ⟨e, n, ne, nf, d⟩ := I.pin p hp
      refine ⟨(hs.2 p.1 ?_).trans e, n, ne, nf, d⟩
      intro q
      rw [q, hoc] at e
      have q' : oc = p.2 := Option.some.inj e
      exact d w' (by rw [← q']; exact hocd)
theorem store_ok {M : Model} {A : Around} {E : Value → Shared → Prop} {i : Nat} {x : Str} {v : V} {u : Value} {Q : Unit → Shared → Prop} (I : Inv X pins σ H s) (hN : X.N.Nodup) (hi : X.N[i]? = some x) (hx : Loc X.env.scope x) (r : RelV v u)
    (h : ∀ s', Inv X pins (σ.set i (some v)) H s' → Q () s') (hf : X.fn x = true ∨ X.env.scope.names.lookup x = some .local := by first | exact .inl rfl | exact .inr rfl | assumption) : wpAny M A (storeName X.env x u) Q E s :=
  store_ok2 I hN hi hx r (fun s' I' _ => h s' I') hf
/-- behind a call or a block, the state as it is -/
theorem Inv.call' {s' : Shared} {ch : List Addr} (I : Inv X pins σ H s) (ho : s'.os = s.os) (u : Un (frs X.stack) ch H H' s.heap s'.heap) (hok : HOk X.prog X.w H' s'.heap) (hg : AllBare s'.gens)
    (hch : ∀ b ∈ ch, (b ∈ X.ex ∨ X.s₀.heap.objs.size ≤ b) ∧ b ≠ X.env.locals ∧ (∀ x c, X.env.cells.lookup x = some c → c ≠ b) ∧ ∀ p ∈ X.pn ++ pins, p.1 ≠ b) : Inv X pins σ H' s' := by
  obtain ⟨h', g', d', t', o'⟩ := s'
  have e : o' = s.os := ho
  subst e
  exact I.call (g' := g') (t' := t') (d' := d') u hok hg hch
end

/-! ### the judgements -/
/-- an exception: its class, its own dict's address (where it has one), the abstract heap behind it -/
abbrev XK := Value → Option Addr → Hp → Prop
abbrev St := List (Option V)
abbrev VK := V → Hp → Prop
/-- an expression's reading; a test's; an argument list's -/
abbrev TE := St → Hp → VK → Prop
abbrev TT := St → Hp → (Bool → Hp → Prop) → Prop
abbrev TA := St → Hp → (List V → Hp → Prop) → Prop
/-- what is wanted behind a statement -/
structure Ends where
  nx : St → Hp → Prop
  rt : VK
  bk : St → Hp → Prop := fun _ _ => False
  ct : St → Hp → Prop := fun _ _ => False
abbrev TS := Ends → St → Hp → Prop

def EP (X : Cx) (pins : List (Addr × Obj)) (σ : St) (Q : VK) (u : Value) (s' : Shared) : Prop := ∃ v H', Inv X pins σ H' s' ∧ RelV v u ∧ Q v H'
def TP (X : Cx) (pins : List (Addr × Obj)) (σ : St) (Q : Bool → Hp → Prop) (b : Bool) (s' : Shared) : Prop := ∃ H', Inv X pins σ H' s' ∧ Q b H'
def AP (X : Cx) (pins : List (Addr × Obj)) (σ : St) (Q : List V → Hp → Prop) (us : List Value) (s' : Shared) : Prop := ∃ vs H', Inv X pins σ H' s' ∧ Vals vs us ∧ Q vs H'
def SP (X : Cx) (pins : List (Addr × Obj)) (D : Ends) (f : Flow) (s' : Shared) : Prop :=
  match f with
  | .next => ∃ σ' H', Inv X pins σ' H' s' ∧ D.nx σ' H'
  | .brk => ∃ σ' H', Inv X pins σ' H' s' ∧ D.bk σ' H'
  | .cont => ∃ σ' H', Inv X pins σ' H' s' ∧ D.ct σ' H'
  | .ret u => ∃ v σ' H', Inv X pins σ' H' s' ∧ RelV v u ∧ D.rt v H'

def PE (X : Cx) (e : Expr) (t : TE) : Prop :=
  ∀ (pins : List (Addr × Obj)) (s : Shared) (σ : St) (H : Hp) (Q : VK), Inv X pins σ H s → t σ H Q → wpAny (model X.prog X.w) X.A (eval e X.env) (EP X pins σ Q) X.xe s
def PT (X : Cx) (e : Expr) (t : TT) : Prop :=
  ∀ (pins : List (Addr × Obj)) (s : Shared) (σ : St) (H : Hp) (Q : Bool → Hp → Prop), Inv X pins σ H s → t σ H Q → wpAny (model X.prog X.w) X.A (isTrue e X.env (eval e X.env)) (TP X pins σ Q) X.xe s
/-- a test whatever its 'whole' is (and, or) -/
def PW (X : Cx) (e : Expr) (t : TT) : Prop :=
  ∀ (whole : Sem Value) (pins : List (Addr × Obj)) (s : Shared) (σ : St) (H : Hp) (Q : Bool → Hp → Prop), Inv X pins σ H s → t σ H Q → wpAny (model X.prog X.w) X.A (isTrue e X.env whole) (TP X pins σ Q) X.xe s
theorem PW.pt {X : Cx} {e : Expr} {t : TT} (h : PW X e t) : PT X e t := h _
/-- an argument list (no star), from the left -/
def PA (X : Cx) (es : List Expr) (t : TA) : Prop :=
  ∀ (pos : Pos) (pins : List (Addr × Obj)) (s : Shared) (σ : St) (H : Hp) (Q : List V → Hp → Prop), Inv X pins σ H s → t σ H Q → wpAny (model X.prog X.w) X.A (spliced (backTo pos (starEach es X.env))) (AP X pins σ Q) X.xe s
def PS (X : Cx) (st : Stmt) (t : TS) : Prop :=
  ∀ (pins : List (Addr × Obj)) (s : Shared) (σ : St) (H : Hp) (D : Ends), Inv X pins σ H s → t D σ H → wpAny (model X.prog X.w) X.A (exec st X.env) (SP X pins D) X.xe s
def PSs (X : Cx) (st : List Stmt) (t : TS) : Prop :=
  ∀ (pins : List (Addr × Obj)) (s : Shared) (σ : St) (H : Hp) (D : Ends), Inv X pins σ H s → t D σ H → wpAny (model X.prog X.w) X.A (execs st X.env) (SP X pins D) X.xe s
/-- weaken the end -/
theorem thn {α : Type} {t : Sem α} {Q Q' : α → Shared → Prop} {M : Model} {A : Around} {E : Value → Shared → Prop} {s : Shared} (h : wpAny M A t Q E s) (hQ : ∀ a s, Q a s → Q' a s) : wpAny M A t Q' E s := wpAny_mono h hQ fun _ _ x => x
end L2

namespace L2
open PySem PySem.Spec PyProof.Rows
section
variable {X : Cx}

/-! ### names and constants -/
def tVar (i : Nat) : TE := fun σ H Q => ∃ v, σ[i]? = some (some v) ∧ Q v H
def tC (v : V) : TE := fun _ H Q => Q v H
theorem pe_var {i : Nat} {x : Str} {pos : Pos} (hN : X.N[i]? = some x) (hv : Vis X.env.scope x) (hd : (x == ("__debug__" : Str)) = false := by decide) (hcd : (x == ("__classdict__" : Str)) = false := by decide) : PE X (.Name x pos) (tVar i) := by
  intro pins s σ H Q I h
  obtain ⟨v, e, h⟩ := h
  obtain ⟨m, hn, hl⟩ := I.loc
  obtain ⟨u, r, l⟩ := hl i x v hN e hv
  have fin : EP X pins σ Q u s := ⟨v, H, I, r, h⟩
  rcases l with ⟨hk, hm⟩ | ⟨hk, c, hc, hcell⟩
  · exact wpAny_Name (wpAny_loadName_local I.ok.kind hk hn hm fin) hd
  · rcases hk with hk | hk
    · exact wpAny_Name (wpAny_loadName_cell I.ok.kind hk hc hcell fin) hd
    · exact wpAny_Name (wpAny_loadName_free I.ok.kind hk hc hcell fin hcd) hd
theorem pe_int {i j pos} : PE X (.Constant (.int i) j pos) (tC (.int i)) := fun _ _ _ H _ I h => wpAny_Constant_int ⟨.int i, H, I.tok _, ⟨_, rfl⟩, h⟩
theorem pe_bl {b j pos} : PE X (.Constant (.bool b) j pos) (tC (.bl b)) := fun _ _ _ H _ I h => Constant_bool ⟨.bl b, H, I, rfl, h⟩
theorem pe_non {j pos} : PE X (.Constant .none j pos) (tC .non) := fun _ _ _ H _ I h => Constant_none ⟨.non, H, I, rfl, h⟩
theorem pe_str {x j pos} : PE X (.Constant (.str x) j pos) (tC (.str x)) := fun _ _ _ H _ I h => Calls.Constant_str ⟨.str x, H, I.tok _, ⟨_, rfl⟩, h⟩

/-- a global name of the def -/
def Gl (X : Cx) (x : Str) : Prop := X.env.kindOf x = some .globalImplicit
theorem ld_glob {E : Value → Shared → Prop} {pins : List (Addr × Obj)} {s : Shared} {σ : St} {H : Hp} {x : Str} {u : Value} {pos : Pos} {Q : Value → Shared → Prop} (I : Inv X pins σ H s) (hg : Gl X x) (hm : X.mg x = some u) (h : Q u s)
    (hd : (x == ("__debug__" : Str)) = false := by decide) : wpAny (model X.prog X.w) X.A (eval (.Name x pos) X.env) Q E s :=
  Calls.Name_function_global I.ok.kind hg (Calls.loadGlobal_global (by rw [I.ok.glob]; exact I.mod.glob.keeps I.bk) hm h) hd
theorem ld_blt {E : Value → Shared → Prop} {pins : List (Addr × Obj)} {s : Shared} {σ : St} {H : Hp} {x : Str} {u : Value} {pos : Pos} {Q : Value → Shared → Prop} (I : Inv X pins σ H s) (hg : Gl X x) (hm : X.mg x = none) (hv : bootBuiltins x = some u) (h : Q u s)
    (hn : x ≠ "__name__" := by decide) (hd : (x == ("__debug__" : Str)) = false := by decide) : wpAny (model X.prog X.w) X.A (eval (.Name x pos) X.env) Q E s := by
  obtain ⟨mb, h1, h2⟩ := I.mod.blt
  exact Calls.Name_function_global I.ok.kind hg (Calls.loadGlobal_builtin (by rw [I.ok.glob]; exact I.mod.glob.keeps I.bk) hm (by rw [I.ok.blt]; exact h1.keeps I.bk) ((h2 x hn).trans hv) h) hd
/-- a module's constant, a class, a function, as a value -/
theorem pe_glob {x : Str} {v : V} {u : Value} {pos : Pos} (hg : Gl X x) (hm : X.mg x = some u) (r : RelV v u) (hd : (x == ("__debug__" : Str)) = false := by decide) : PE X (.Name x pos) (tC v) :=
  fun _ _ _ H _ I h => ld_glob I hg hm ⟨v, H, I, r, h⟩ hd
theorem pe_bltn {x : Str} {v : V} {u : Value} {pos : Pos} (hg : Gl X x) (hm : X.mg x = none) (hv : bootBuiltins x = some u) (r : RelV v u) (hn : x ≠ "__name__" := by decide) (hd : (x == ("__debug__" : Str)) = false := by decide) : PE X (.Name x pos) (tC v) :=
  fun _ _ _ H _ I h => ld_blt I hg hm hv ⟨v, H, I, r, h⟩ hn hd

/-! ### arithmetic -/
variable {a b : Expr} {ta tb : TE} {pos : Pos}
/-! ### comparisons -/
def PC (X : Cx) (op : CmpOp) (a b : Expr) (t : TE) : Prop :=
  ∀ (pins : List (Addr × Obj)) (s : Shared) (σ : St) (H : Hp) (Q : VK), Inv X pins σ H s → t σ H Q →
    wpAny (model X.prog X.w) X.A (eval a X.env) (fun v s₁ => wpAny (model X.prog X.w) X.A (eval b X.env) (fun u s₂ => wpAny (model X.prog X.w) X.A (compareOp op v u) (EP X pins σ Q) X.xe s₂) X.xe s₁) X.xe s
theorem nobehind (b : Expr) {op : CmpOp} (h : op ≠ .In) (h2 : op ≠ .NotIn) : behindInMarks op b = false := by
  have e1 : (op == CmpOp.In) = false := by cases op <;> first | rfl | exact absurd rfl h
  have e2 : (op == CmpOp.NotIn) = false := by cases op <;> first | rfl | exact absurd rfl h2
  cases b <;> simp [behindInMarks, e1, e2]
/-- a comparison as a value, as a test -/
def tB (t : TE) : TT := fun σ H Q => t σ H fun x H1 => ∃ c, x = .bl c ∧ Q c H1
theorem pt_cmp {op : CmpOp} {t : TE} (h : PC X op a b t) (h1 : behindInMarks op b = false := by first | exact nobehind _ (by decide) (by decide) | rfl) : PT X (.Compare a [op] [b] pos) (tB t) := by
  intro pins s σ H Q I hw
  refine wpAny_isTrue_Compare1 (thn (h pins s σ H _ I hw) fun v s1 h1 => thn h1 fun u s2 h2 => thn h2 fun c s3 ⟨x, H1, I1, r1, q1⟩ => ?_) h1
  obtain ⟨d, rfl, q⟩ := q1
  cases r1
  exact wpAny_truthy_bool ⟨H1, I1, q⟩
/-- an expression whose value is a bool, as a test -/
theorem pt_val {e : Expr} {t : TE} (h : PE X e t) (he : ∀ whole, isTrue e X.env whole = (do let v ← whole; standAt e.pos; holding [v] (truthy v)) := by intro _; rfl) : PT X e (tB t) := by
  intro pins s σ H Q I hw
  refine isTrue_plain (thn (h pins s σ H _ I hw) fun v s1 ⟨x, H1, I1, r1, q1⟩ => ?_) (he _)
  obtain ⟨d, rfl, q⟩ := q1
  cases r1
  exact wpAny_truthy_bool ⟨H1, I1, q⟩

/-! ### and, or, not -/
variable {tA tB' : TT} {rest : List Expr}
def tAnd (t u : TT) : TT := fun σ H Q => t σ H fun c H1 => if c = true then u σ H1 Q else Q false H1
def tOr (t u : TT) : TT := fun σ H Q => t σ H fun c H1 => if c = true then Q true H1 else u σ H1 Q
def tNot (t : TT) : TT := fun σ H Q => t σ H fun c H1 => Q (!c) H1
theorem pw_and1 (ha : PT X a tA) : PW X (.BoolOp .And [a] pos) tA := by
  intro wh pins s σ H Q I h
  refine isTrue_and (thn (ha pins s σ H Q I h) fun c s1 e => ?_)
  cases c with
  | true => exact isTrue_and_nil e
  | false => exact e
theorem pw_or1 (ha : PT X a tA) : PW X (.BoolOp .Or [a] pos) tA := by
  intro wh pins s σ H Q I h
  refine isTrue_or (thn (ha pins s σ H Q I h) fun c s1 e => ?_)
  cases c with
  | false => exact isTrue_or_nil e
  | true => exact e
theorem pw_and (ha : PT X a tA) (hb : PW X (.BoolOp .And (b :: rest) pos) tB') : PW X (.BoolOp .And (a :: b :: rest) pos) (tAnd tA tB') := by
  intro wh pins s σ H Q I h
  refine isTrue_and (thn (ha pins s σ H _ I h) fun c s1 ⟨H1, I1, q1⟩ => ?_)
  cases c with
  | true => exact hb wh pins s1 σ H1 Q I1 q1
  | false => exact ⟨H1, I1, q1⟩
theorem pw_or (ha : PT X a tA) (hb : PW X (.BoolOp .Or (b :: rest) pos) tB') : PW X (.BoolOp .Or (a :: b :: rest) pos) (tOr tA tB') := by
  intro wh pins s σ H Q I h
  refine isTrue_or (thn (ha pins s σ H _ I h) fun c s1 ⟨H1, I1, q1⟩ => ?_)
  cases c with
  | true => exact ⟨H1, I1, q1⟩
  | false => exact hb wh pins s1 σ H1 Q I1 q1
theorem pt_not (ha : PT X a tA) : PT X (.UnaryOp .Not a pos) (tNot tA) := by
  intro pins s σ H Q I h
  exact isTrue_not (ha pins s σ H (fun c H1 => Q (!c) H1) I h)
/-- .. as values (bools) -/
def tAndV (ta tb : TE) : TE := fun σ H Q => ta σ H fun x H1 => ∃ c, x = .bl c ∧ if c = true then tb σ H1 Q else Q (.bl false) H1
def tOrV (ta tb : TE) : TE := fun σ H Q => ta σ H fun x H1 => ∃ c, x = .bl c ∧ if c = true then Q (.bl true) H1 else tb σ H1 Q
def tNotV (ta : TE) : TE := fun σ H Q => ta σ H fun x H1 => ∃ c, x = .bl c ∧ Q (.bl (!c)) H1
theorem pe_one {op} {t : TE} (h : PE X a t) : PE X (.BoolOp op [a] pos) t := fun pins s σ H Q I hw => BoolOp_one (h pins s σ H Q I hw)
theorem pe_and (ha : PE X a ta) (hb : PE X (.BoolOp .And (b :: rest) pos) tb) : PE X (.BoolOp .And (a :: b :: rest) pos) (tAndV ta tb) := by
  intro pins s σ H Q I h
  refine BoolOp_and (thn (ha pins s σ H _ I h) fun v s1 ⟨x, H1, I1, r1, q1⟩ => ?_)
  obtain ⟨c, rfl, q1⟩ := q1
  cases r1
  refine wpAny_truthy_bool ?_
  cases c with
  | true => exact hb pins s1 σ H1 Q I1 q1
  | false => exact ⟨.bl false, H1, I1, rfl, q1⟩
theorem pe_not (ha : PE X a ta) : PE X (.UnaryOp .Not a pos) (tNotV ta) := by
  intro pins s σ H Q I h
  refine UnaryOp_ (thn (ha pins s σ H _ I h) fun v s1 ⟨x, H1, I1, r1, q1⟩ => ?_)
  obtain ⟨c, rfl, q1⟩ := q1
  cases r1
  exact not_of (wpAny_truthy_bool ⟨.bl (!c), H1, I1, rfl, q1⟩)
/-- a if t else b -/
def tIf (t : TT) (ta tb : TE) : TE := fun σ H Q => t σ H fun c H1 => if c = true then ta σ H1 Q else tb σ H1 Q
theorem pe_ifExp {c : Expr} (hc : PT X c tA) (ha : PE X a ta) (hb : PE X b tb) : PE X (.IfExp c a b pos) (tIf tA ta tb) := by
  intro pins s σ H Q I h
  refine wpAny_IfExp (thn (hc pins s σ H _ I h) fun d s1 ⟨H1, I1, q1⟩ => ?_)
  cases d with
  | true => exact ha pins s1 σ H1 Q I1 q1
  | false => exact hb pins s1 σ H1 Q I1 q1
end
end L2

namespace L2
open PySem PySem.Spec PyProof.Rows

/-! ### a list, a tuple that is read: tracked, frozen, or an object of the module -/
def SqL (K : PySem.W.Frag) (H : Hp) (a : Addr) (xs : List V) : Prop :=
  Rd H a (.lst xs) ∨
    ∃ (o : Obj) (its : Array Value) (n : Nat), K.lookup a = some o ∧ o.cls = .type "list" ∧ o.dict = none ∧ o.data = .seq its n ∧ its.size ≤ sizeLine ∧ Vals xs its.toList
def SqT (K : PySem.W.Frag) (H : Hp) (a : Addr) (xs : List V) : Prop :=
  Rd H a (.tup xs) ∨
    ∃ (o : Obj) (its : Array Value) (n : Nat), K.lookup a = some o ∧ o.cls = .type "tuple" ∧ o.data = .seq its n ∧ its.size ≤ sizeLine ∧ Vals xs its.toList
def absV : Value → Option V
  | .none => some .non
  | .bool b => some (.bl b)
  | .int i _ => some (.int i)
  | .str x _ => some (.str x)
  | .bytes b _ => some (.byt b)
  | .float b _ => some (.flt b)
  | .ref a => some (.ref a)
  | .type n => some (.ty n)
  | _ => none
theorem RelV.abs {x : V} {u : Value} (r : RelV x u) : absV u = some x := by
  cases x with
  | non => cases r; rfl
  | bl _ => cases r; rfl
  | int _ => obtain ⟨t, rfl⟩ := r; rfl
  | str _ => obtain ⟨t, rfl⟩ := r; rfl
  | byt _ => obtain ⟨t, rfl⟩ := r; rfl
  | flt _ => obtain ⟨t, rfl⟩ := r; rfl
  | ref _ => cases r; rfl
  | ty _ => cases r; rfl
theorem RelV.inj {x y : V} {u : Value} (r : RelV x u) (q : RelV y u) : x = y := Option.some.inj (r.abs.symm.trans q.abs)
theorem Vals.inj : ∀ {xs ys : List V} {us : List Value}, Vals xs us → Vals ys us → xs = ys
  | _, _, _, .nil, .nil => rfl
  | _, _, _, .cons r t, .cons r' t' => by rw [r.inj r', Vals.inj t t']
section
variable {X : Cx} {pins : List (Addr × Obj)} {σ : St} {H : Hp} {s : Shared} {a : Addr} {xs ys : List V}
theorem SqL.of {K : PySem.W.Frag} (h : H a = some (.lst xs)) : SqL K H a xs := .inl (.inl h)
theorem SqT.of {K : PySem.W.Frag} (h : H a = some (.tup xs)) : SqT K H a xs := .inl (.inl h)
theorem Inv.list (I : Inv X pins σ H s) (h : SqL X.K H a xs) : ∃ its : List Value, Vals xs its ∧ PlainL s.heap a its.toArray ∧ xs.length ≤ sizeLine := by
  rcases h with h | ⟨o, its, n, hk, hc, hd, hs, hz, r⟩
  · obtain ⟨z, its, n, r, e⟩ := h.ok I.hok
    exact ⟨its, r, ⟨_, n, e, rfl, rfl, rfl⟩, z⟩
  · refine ⟨its.toList, r, ⟨o, n, I.kIn a o hk, hc, hd, by simpa using hs⟩, ?_⟩
    have e := r.length
    simp only [Array.length_toList] at e
    omega
theorem Inv.tuple (I : Inv X pins σ H s) (h : SqT X.K H a xs) : ∃ its : List Value, Vals xs its ∧ IsTup s.heap a its.toArray ∧ xs.length ≤ sizeLine := by
  rcases h with h | ⟨o, its, n, hk, hc, hs, hz, r⟩
  · obtain ⟨z, its, r, p⟩ := h.ok I.hok
    exact ⟨its, r, p, z⟩
  · refine ⟨its.toList, r, ⟨o, I.kIn a o hk, hc, n, by simpa using hs⟩, ?_⟩
    have e := r.length
    simp only [Array.length_toList] at e
    omega
theorem Inv.list_inj (I : Inv X pins σ H s) (h : SqL X.K H a xs) (h' : SqL X.K H a ys) : xs = ys := by
  obtain ⟨its, r, ⟨o, n, e, _, _, d⟩, _⟩ := I.list h
  obtain ⟨its', r', ⟨o', n', e', _, _, d'⟩, _⟩ := I.list h'
  rw [e] at e'; cases e'
  rw [d] at d'
  injection d' with d1 _
  have : its = its' := by simpa using congrArg Array.toList d1
  subst this
  exact r.inj r'
theorem Inv.tuple_inj (I : Inv X pins σ H s) (h : SqT X.K H a xs) (h' : SqT X.K H a ys) : xs = ys := by
  obtain ⟨its, r, ⟨o, e, _, n, d⟩, _⟩ := I.tuple h
  obtain ⟨its', r', ⟨o', e', _, n', d'⟩, _⟩ := I.tuple h'
  rw [e] at e'; cases e'
  rw [d] at d'
  injection d' with d1 _
  have : its = its' := by simpa using congrArg Array.toList d1
  subst this
  exact r.inj r'
end

/-! ### another wish about exceptions -/
abbrev Cx.wish (X : Cx) (E : Value → Shared → Prop) : Cx := { X with xe := E }
/-- no exception leaves -/
abbrev Cx.nox (X : Cx) : Cx := X.wish fun _ _ => False
theorem Cx.Ok.wish {X : Cx} (ok : X.Ok) (E : Value → Shared → Prop) : (X.wish E).Ok :=
  ⟨ok.mod, ok.kind, ok.glob, ok.blt, ok.above, ok.inj, ok.has, ok.cab, ok.hd, ok.frames, ok.stk, ok.exf, ok.bs, ok.bsz, ok.noex, ok.exfs, ok.funs, ok.frf⟩
theorem Cx.Ok.unwish {X : Cx} {E : Value → Shared → Prop} (ok : (X.wish E).Ok) : X.Ok :=
  ⟨ok.mod, ok.kind, ok.glob, ok.blt, ok.above, ok.inj, ok.has, ok.cab, ok.hd, ok.frames, ok.stk, ok.exf, ok.bs, ok.bsz, ok.noex, ok.exfs, ok.funs, ok.frf⟩
section
variable {X : Cx} {pins : List (Addr × Obj)} {σ : St} {H : Hp} {s : Shared} {E : Value → Shared → Prop}
theorem Inv.wish (I : Inv X pins σ H s) (E : Value → Shared → Prop) : Inv (X.wish E) pins σ H s := ⟨I.ok.wish E, I.os, I.bare, I.base, I.loc, I.cell, I.free, I.freeC, I.pin, I.hok, I.len⟩
theorem Inv.unwish (I : Inv (X.wish E) pins σ H s) : Inv X pins σ H s := ⟨I.ok.unwish, I.os, I.bare, I.base, I.loc, I.cell, I.free, I.freeC, I.pin, I.hok, I.len⟩
theorem SP.unwish {D : Ends} {f : Flow} {s' : Shared} (h : SP (X.wish E) pins D f s') : SP X pins D f s' := by
  cases f with
  | next => obtain ⟨σ', H', I, q⟩ := h; exact ⟨σ', H', I.unwish, q⟩
  | brk => obtain ⟨σ', H', I, q⟩ := h; exact ⟨σ', H', I.unwish, q⟩
  | cont => obtain ⟨σ', H', I, q⟩ := h; exact ⟨σ', H', I.unwish, q⟩
  | ret u => obtain ⟨v, σ', H', I, r, q⟩ := h; exact ⟨v, σ', H', I.unwish, r, q⟩
theorem PE.nox {e : Expr} {t : TE} (h : PE X.nox e t) : PE X e t := fun pins s σ H Q I hw =>
  wpAny_mono (h pins s σ H Q (I.wish _) hw) (fun _ _ ⟨v, H', I', r, q⟩ => ⟨v, H', I'.unwish, r, q⟩) fun _ _ z => False.elim z
theorem PT.nox {e : Expr} {t : TT} (h : PT X.nox e t) : PT X e t := fun pins s σ H Q I hw =>
  wpAny_mono (h pins s σ H Q (I.wish _) hw) (fun _ _ ⟨H', I', q⟩ => ⟨H', I'.unwish, q⟩) fun _ _ z => False.elim z
theorem PSs.nox {st : List Stmt} {t : TS} (h : PSs X.nox st t) : PSs X st t := fun pins s σ H D I hw =>
  wpAny_mono (h pins s σ H D (I.wish _) hw) (fun _ _ q => q.unwish) fun _ _ z => False.elim z
end

/-! ### blocks and small statements -/
section
variable {X : Cx} {st : Stmt} {rest : List Stmt} {t u : TS} {e : Expr} {te : TE} {pos : Pos}
def tNext : TS := fun D σ H => D.nx σ H
def tSeq (t u : TS) : TS := fun D σ H => t { D with nx := u D } σ H
theorem pss_nil : PSs X [] tNext := fun _ _ σ H _ I h => wpAny_execs_nil ⟨σ, H, I, h⟩
theorem pss_cons (h1 : PS X st t) (h2 : PSs X rest u) : PSs X (st :: rest) (tSeq t u) := by
  intro pins s σ H D I h
  refine wpAny_execs_cons (thn (h1 pins s σ H { D with nx := u D } I h) fun f s1 q => ?_)
  cases f with
  | next =>
    obtain ⟨σ', H', I', q⟩ := q
    exact h2 pins s1 σ' H' D I' q
  | ret v => exact q
  | brk => exact q
  | cont => exact q
theorem pss_one (h1 : PS X st t) : PSs X [st] t := by
  intro pins s σ H D I h
  refine wpAny_execs_cons (thn (h1 pins s σ H D I h) fun f s1 q => ?_)
  cases f with
  | next => exact wpAny_execs_nil q
  | ret v => exact q
  | brk => exact q
  | cont => exact q
/-- in a def's body nothing is shown -/
theorem Inv.quiet {pins : List (Addr × Obj)} {σ : St} {H : Hp} {s : Shared} (I : Inv X pins σ H s) : interactive X.env = false := by simp [interactive, I.ok.kind]
/-- an expression whose value is dropped -/
def tDrop (te : TE) : TS := fun D σ H => te σ H fun _ H1 => D.nx σ H1
theorem ps_expr (he : PE X e te) (hs : swapsWith e none pos.line X.env = pure false := by rfl) : PS X (.Expr e pos) (tDrop te) := by
  intro pins s σ H D I h
  exact wpAny_Expr_any (thn (he pins s σ H _ I h) fun v s1 ⟨x, H1, I1, r1, q1⟩ => ⟨σ, H1, I1, q1⟩) I.quiet hs
def tRet (te : TE) : TS := fun D σ H => te σ H D.rt
theorem ps_ret (he : PE X e te) : PS X (.Return (some e) pos) (tRet te) := by
  intro pins s σ H D I h
  exact wpAny_Return_some (thn (he pins s σ H _ I h) fun v s1 ⟨x, H1, I1, r1, q1⟩ => ⟨x, σ, H1, I1, r1, q1⟩)
def tRetN : TS := fun D _ H => D.rt .non H
def tIfS (c : TT) (t u : TS) : TS := fun D σ H => c σ H fun b H1 => if b = true then t D σ H1 else u D σ H1
theorem ps_if {c : Expr} {a b : List Stmt} {tc : TT} (hc : PT X c tc) (ha : PSs X a t) (hb : PSs X b u) : PS X (.If c a b pos) (tIfS tc t u) := by
  intro pins s σ H D I h
  refine wpAny_If (thn (hc pins s σ H _ I h) fun d s1 ⟨H1, I1, q1⟩ => ?_)
  cases d with
  | true => exact ha pins s1 σ H1 D I1 q1
  | false => exact hb pins s1 σ H1 D I1 q1
/-- code that the proof never comes to -/
def tNever : TS := fun _ _ _ => False
theorem ps_never : PS X st tNever := fun _ _ _ _ _ _ h => h.elim
end

/-! ### targets -/
abbrev TG := V → St → Hp → (St → Hp → Prop) → Prop
abbrev TGs := List V → St → Hp → (St → Hp → Prop) → Prop
def PG (X : Cx) (target : Expr) (t : TG) : Prop :=
  ∀ (pins : List (Addr × Obj)) (s : Shared) (σ : St) (H : Hp) (v : V) (u : Value) (Q : St → Hp → Prop), Inv X pins σ H s → RelV v u → t v σ H Q →
    wpAny (model X.prog X.w) X.A (assign target X.env u) (fun _ s' => ∃ σ' H', Inv X pins σ' H' s' ∧ Q σ' H') X.xe s
/-- several targets, one after another -/
def PGs (X : Cx) (ts : List Expr) (t : TGs) : Prop :=
  ∀ (pins : List (Addr × Obj)) (s : Shared) (σ : St) (H : Hp) (vs : List V) (us : List Value) (Q : St → Hp → Prop), Inv X pins σ H s → Vals vs us → t vs σ H Q →
    wpAny (model X.prog X.w) X.A (assignInOrder ((assignEach ts X.env).map (·.2)) us) (fun _ s' => ∃ σ' H', Inv X pins σ' H' s' ∧ Q σ' H') X.xe s
/-- o[i] = v, by values -/
abbrev TSet := V → V → V → Hp → (Hp → Prop) → Prop
section
variable {X : Cx} {pos : Pos}
def gName (i : Nat) : TG := fun v σ H Q => Q (σ.set i (some v)) H
theorem pg_name {i : Nat} {x : Str} (hN : X.N.Nodup) (hi : X.N[i]? = some x) (hx : Loc X.env.scope x) (hf : X.fn x = true ∨ X.env.scope.names.lookup x = some .local := by first | exact .inl rfl | exact .inr rfl | assumption) : PG X (.Name x pos) (gName i) := by
  intro pins s σ H v u Q I r h
  exact wpAny_assign_Name (store_ok I hN hi hx r (fun s' I' => ⟨_, H, I', h⟩) hf)
def gNil : TGs := fun vs σ H Q => vs = [] ∧ Q σ H
def gCons (t : TG) (u : TGs) : TGs := fun vs σ H Q => ∃ v r, vs = v :: r ∧ t v σ H fun σ' H' => u r σ' H' Q
theorem pgs_nil : PGs X [] gNil := by
  intro pins s σ H vs us Q I r h
  obtain ⟨e, h⟩ := h
  subst e
  cases r
  exact assignInOrder_nil ⟨σ, H, I, h⟩
theorem pgs_cons {e : Expr} {es : List Expr} {t : TG} {u : TGs} (h1 : PG X e t) (h2 : PGs X es u)
    (hs : (assignEach (e :: es) X.env).map (·.2) = assign e X.env :: (assignEach es X.env).map (·.2) := by rfl) : PGs X (e :: es) (gCons t u) := by
  intro pins s σ H vs us Q I r h
  obtain ⟨v, vr, e1, h⟩ := h
  subst e1
  cases r with
  | cons r rr =>
    rw [hs]
    refine assignInOrder_cons (thn (h1 pins s σ H _ _ _ I r h) fun _ s1 ⟨σ1, H1, I1, q1⟩ => ?_)
    exact h2 pins s1 σ1 H1 _ _ Q I1 rr q1
/-- (a, b, ..) = a tuple of that length -/
def gTup (K : PySem.W.Frag) (n : Nat) (t : TGs) : TG := fun v σ H Q => ∃ a xs, v = .ref a ∧ SqT K H a xs ∧ xs.length = n ∧ t xs σ H Q
theorem pg_tup {es : List Expr} {k : Nat} {t : TGs} {n : Nat} (hc : X.calm = true) (h : PGs X es t)
    (hn : (assignEach es X.env).length = n := by rfl) (hst : (assignEach es X.env).findIdx? (·.1) = none := by rfl) : PG X (.Tuple es k pos) (gTup X.K n t) := by
  intro pins s σ H v u Q I r hw
  obtain ⟨a, xs, e1, hq, hl, hw⟩ := hw
  subst e1
  cases r
  obtain ⟨its, rv, ht, hz⟩ := I.tuple hq
  refine assign_Tuple_tuple (I.ok.hd hc) ht (by simp [hn, ← hl, rv.length]) hst fun h' hx => ?_
  have I1 : Inv X pins σ H { s with heap := h' } := I.kept (t' := s.toks) fun b o e => hx b o (Nat.ne_of_lt (Heap.lt_size e)) e
  exact h pins _ σ H xs _ Q I1 (by simpa using rv) hw
/-- o[i] = .. -/
def gSub (to ti : TE) (t : TSet) : TG := fun v σ H Q => to σ H fun o H1 => ti σ H1 fun i H2 => t o i v H2 fun H3 => Q σ H3
/-- target = value -/
def tAsg (te : TE) (g : TG) : TS := fun D σ H => te σ H fun x H1 => g x σ H1 D.nx
/-- name = value -/
theorem ps_set {i : Nat} {x : Str} {e : Expr} {te : TE} {pos' : Pos} (hN : X.N.Nodup) (hi : X.N[i]? = some x) (hx : Loc X.env.scope x) (he : PE X e te) (hs : swapsWith e (some (.Name x pos')) pos.line X.env = pure false := by rfl) (hf : X.fn x = true ∨ X.env.scope.names.lookup x = some .local := by first | exact .inl rfl | exact .inr rfl | assumption) :
    PS X (.Assign [.Name x pos'] e pos) (tAsg te (gName i)) := by
  intro pins s σ H D I h
  refine wpAny_Assign_Name (thn (he pins s σ H _ I h) fun v s1 ⟨y, H1, I1, r1, q1⟩ => ?_) hs
  exact store_ok I1 hN hi hx r1 (fun s2 I2 => ⟨_, H1, I2, q1⟩) hf
end

/-! ### while -/
section
variable {X : Cx} {pos : Pos}
end

/-! ### what a loop or a comprehension walks -/
/-- at turn i: it yields x (the heap may grow), or it stops -/
structure It where
  go : Nat → Hp → Prop
  yld : Nat → Hp → V → Hp → Prop
  stop : Nat → Hp → Prop
/-- the iterator's own objects may turn: they are not the frame's, not pinned, younger than the entry (or a comprehension's own) -/
def FpOk (X : Cx) (pins : List (Addr × Obj)) (H : Hp) (b : Addr) : Prop :=
  H b = none ∧ b ≠ X.env.locals ∧ b ∉ X.fs ∧ (b ∈ X.ex ∨ X.s₀.heap.objs.size ≤ b) ∧ (∀ x c, X.env.cells.lookup x = some c → c ≠ b) ∧ ∀ p ∈ X.pn ++ pins, p.1 ≠ b
theorem Inv.fpOk {X : Cx} {pins : List (Addr × Obj)} {σ : St} {H H' : Hp} {s : Shared} {b : Addr} (I : Inv X pins σ H s) (hb : s.heap.objs.size ≤ b) (hn : H' b = none) : FpOk X pins H' b := by
  refine ⟨hn, Nat.ne_of_gt (Nat.lt_of_lt_of_le I.lt hb), I.nofs hb, .inr (Nat.le_trans I.sz hb), fun x c e z => ?_, fun p hp z => ?_⟩
  · obtain ⟨v, q⟩ := I.cell x c e
    exact absurd (Nat.lt_of_lt_of_le q.lt (by rw [z]; exact hb)) (Nat.lt_irrefl _)
  · exact absurd (Nat.lt_of_lt_of_le (Heap.lt_size (I.pin p hp).1) (by rw [z]; exact hb)) (Nat.lt_irrefl _)
structure Turn (P : Program) (w : World) (K : PySem.W.Frag) (tg : Expr) (J : It) (fp : List Addr) (it : Addr) (tn : Nat → Heap → Prop) : Prop where
  mem : it ∈ fp
  obj : ∀ i h, tn i h → ∀ b ∈ fp, ∃ o, h.get? b = some o ∧ ∀ v, o.data ≠ .cell v
  keep : ∀ i h h', tn i h → (∀ b ∈ fp, ∀ o, h.get? b = some o → h'.get? b = some o) → tn i h'
  item : ∀ (X : Cx), X.prog = P → X.w = w → X.K = K → X.calm = true → ∀ (i : Nat) (pins : List (Addr × Obj)) (s : Shared) (σ : St) (H : Hp) (E : Value → Shared → Prop), Inv X pins σ H s → (∀ b ∈ fp, FpOk X pins H b) → tn i s.heap → J.go i H →
    wpAny (model P w) X.A (pyNext (.ref it)) (fun r s1 => ∃ u, r = some u ∧
      wpAny (model P w) X.A (letOwnedTupleGo tg (.ref it) u) (fun _ s2 => ∃ x H', Inv X pins σ H' s2 ∧ RelV x u ∧ J.yld i H x H' ∧ tn (i + 1) s2.heap ∧ ∀ b ∈ fp, H' b = none) E s1) E s
  done : ∀ (X : Cx), X.prog = P → X.w = w → X.K = K → X.calm = true → ∀ (i : Nat) (pins : List (Addr × Obj)) (s : Shared) (σ : St) (H : Hp) (E : Value → Shared → Prop), Inv X pins σ H s → (∀ b ∈ fp, FpOk X pins H b) → tn i s.heap → J.stop i H →
    wpAny (model P w) X.A (pyNext (.ref it)) (fun r s1 => r = none ∧ Inv X pins σ H s1) E s
  self : ∀ (A : Around) (i : Nat) (s : Shared) (Q : Value → Shared → Prop) (E : Value → Shared → Prop), tn i s.heap → Q (.ref it) s → wpAny (model P w) A (pyIter (.ref it)) Q E s
abbrev TI := St → Hp → (It → Hp → Prop) → Prop
/-- an iterator has come -/
def PIE (X : Cx) (pins : List (Addr × Obj)) (σ : St) (tg : Expr) (R : It → Hp → Prop) (itv : Value) (s2 : Shared) : Prop :=
  ∃ (it : Addr) (fp : List Addr) (tn : Nat → Heap → Prop) (J : It) (H' : Hp), itv = .ref it ∧ Inv X pins σ H' s2 ∧ Turn X.prog X.w X.K tg J fp it tn ∧ tn 0 s2.heap ∧ (∀ b ∈ fp, FpOk X pins H' b) ∧ R J H'
def PI (X : Cx) (tg iter : Expr) (wi : TI) : Prop :=
  ∀ (pins : List (Addr × Obj)) (s : Shared) (σ : St) (H : Hp) (R : It → Hp → Prop), Inv X pins σ H s → wi σ H R →
    wpAny (model X.prog X.w) X.A (eval iter X.env) (fun v s1 => wpAny (model X.prog X.w) X.A (pyIter v) (PIE X pins σ tg R) X.xe s1) X.xe s

/-- the step ahead of the store is nothing for an iterator that keeps no tuple -/
theorem go_of {M : Model} {A : Around} {E : Value → Shared → Prop} {s : Shared} {tg : Expr} {it : Addr} {u : Value} {o : Obj} {n : String} {vs : Array Value} {Q : Unit → Shared → Prop} (ho : s.heap.get? it = some o) (hc : o.cls = .type n) (hd : o.data = .fields vs)
    (hn : ["enumerate", "zip", "dict_itemiterator", "dict_reverseitemiterator", "odict_iterator", "itertools.zip_longest", "itertools.pairwise"].contains n = false) (hQ : Q () s) : wpAny M A (letOwnedTupleGo tg (.ref it) u) Q E s := by
  unfold letOwnedTupleGo
  cases tg <;> first
    | exact wpAny_pure hQ
    | (cases u <;> first
        | exact wpAny_pure hQ
        | (refine wpAny_bind (wpAny_load ho ?_)
           rw [hc, hd]
           show wpAny M A (if (["enumerate", "zip", "dict_itemiterator", "dict_reverseitemiterator", "odict_iterator", "itertools.zip_longest", "itertools.pairwise"].contains n && vs[0]? == some (rawInt _)) = true then _ else _) Q E s
           rw [if_neg (by intro h; rw [hn, Bool.false_and] at h; cases h)]
           exact wpAny_pure hQ))

/-- the list at a, as it stands at each turn (a loop may append to it) -/
def Itl (K : PySem.W.Frag) (a : Addr) : It :=
  ⟨fun i H => ∃ xs x, SqL K H a xs ∧ xs[i]? = some x, fun i H x H' => H' = H ∧ ∀ xs, SqL K H a xs → xs[i]? = some x, fun i H => ∃ xs, SqL K H a xs ∧ xs.length ≤ i⟩
def Itt (K : PySem.W.Frag) (a : Addr) : It :=
  ⟨fun i H => ∃ xs x, SqT K H a xs ∧ xs[i]? = some x, fun i H x H' => H' = H ∧ ∀ xs, SqT K H a xs → xs[i]? = some x, fun i H => ∃ xs, SqT K H a xs ∧ xs.length ≤ i⟩
/-- lo, lo + 1, .. (n of them) -/
def Itr (lo : Int) (n : Nat) : It := ⟨fun i _ => i < n, fun i H x H' => H' = H ∧ x = .int (lo + i), fun i _ => n ≤ i⟩
theorem turn_list {P : Program} {w : World} {K : PySem.W.Frag} {tg : Expr} (a it : Addr) : Turn P w K tg (Itl K a) [it] it (fun i h => h.IsListIter it a i) where
  mem := by simp
  obj := fun i h st b hb => by
    have e : b = it := by simpa using hb
    subst e
    obtain ⟨o, e, c, d⟩ := st
    exact ⟨o, e, fun v z => by rw [d] at z; cases z⟩
  keep := fun i h h' st k => st.at fun o e => k it (by simp) o e
  item := by
    intro X hP hw hK hc i pins s σ H E I hf st hg
    subst hP hw hK
    obtain ⟨xs, x, hq, hx⟩ := hg
    obtain ⟨its, rv, p, hz⟩ := I.list hq
    obtain ⟨u, hu, ru⟩ := rv.get hx
    obtain ⟨f0, f1, f2, f3, f4, f5⟩ := hf it (by simp)
    refine wpAny_pyNext_list_item st p.isList (x := u) (by simpa using hu) fun h' st' sb => ?_
    have I1 : Inv X pins σ H { s with heap := h' } := I.turned (t' := s.toks) (fun b o hb e => (sb.2 b hb).trans e) f0 f1 f3 f4 f5
    obtain ⟨o, e, c, d⟩ := id st'
    exact ⟨u, rfl, go_of (s := { s with heap := h' }) e c d (by decide) ⟨x, H, I1, ru, ⟨rfl, fun ys hy => by rw [I.list_inj hy hq]; exact hx⟩, st', fun b hb => (hf b hb).1⟩⟩
  done := by
    intro X hP hw hK hc i pins s σ H E I hf st hg
    subst hP hw hK
    obtain ⟨xs, hq, hx⟩ := hg
    obtain ⟨its, rv, p, hz⟩ := I.list hq
    obtain ⟨f0, f1, f2, f3, f4, f5⟩ := hf it (by simp)
    have hl := rv.length
    exact wpAny_pyNext_list_end (I.ok.hd hc) st p.isList (by simp; omega) fun h' eb => ⟨rfl, I.turned (t' := s.toks) (fun b o hb e => eb b o hb e) f0 f1 f3 f4 f5⟩
  self := fun _ _ _ _ _ st h => wpAny_pyIter_listiter st h
theorem turn_tuple {P : Program} {w : World} {K : PySem.W.Frag} {tg : Expr} (a it : Addr) : Turn P w K tg (Itt K a) [it] it (fun i h => h.IsTupleIter it a i) where
  mem := by simp
  obj := fun i h st b hb => by
    have e : b = it := by simpa using hb
    subst e
    obtain ⟨o, e, c, d⟩ := st
    exact ⟨o, e, fun v z => by rw [d] at z; cases z⟩
  keep := fun i h h' st k => st.at fun o e => k it (by simp) o e
  item := by
    intro X hP hw hK hc i pins s σ H E I hf st hg
    subst hP hw hK
    obtain ⟨xs, x, hq, hx⟩ := hg
    obtain ⟨its, rv, p, hz⟩ := I.tuple hq
    obtain ⟨u, hu, ru⟩ := rv.get hx
    obtain ⟨f0, f1, f2, f3, f4, f5⟩ := hf it (by simp)
    refine wpAny_pyNext_tuple_item st (show s.heap.IsTuple a its.toArray from p) (x := u) (by simpa using hu) fun h' st' sb => ?_
    have I1 : Inv X pins σ H { s with heap := h' } := I.turned (t' := s.toks) (fun b o hb e => (sb.2 b hb).trans e) f0 f1 f3 f4 f5
    obtain ⟨o, e, c, d⟩ := id st'
    exact ⟨u, rfl, go_of (s := { s with heap := h' }) e c d (by decide) ⟨x, H, I1, ru, ⟨rfl, fun ys hy => by rw [I.tuple_inj hy hq]; exact hx⟩, st', fun b hb => (hf b hb).1⟩⟩
  done := by
    intro X hP hw hK hc i pins s σ H E I hf st hg
    subst hP hw hK
    obtain ⟨xs, hq, hx⟩ := hg
    obtain ⟨its, rv, p, hz⟩ := I.tuple hq
    obtain ⟨f0, f1, f2, f3, f4, f5⟩ := hf it (by simp)
    have hl := rv.length
    exact wpAny_pyNext_tuple_end (I.ok.hd hc) st (show s.heap.IsTuple a its.toArray from p) (by simp; omega) fun h' eb => ⟨rfl, I.turned (t' := s.toks) (fun b o hb e => eb b o hb e) f0 f1 f3 f4 f5⟩
  self := fun _ _ _ _ _ st h => wpAny_pyIter_tupleiter st h
theorem turn_range {P : Program} {w : World} {K : PySem.W.Frag} {tg : Expr} (it : Addr) (lo : Int) (n : Nat) : Turn P w K tg (Itr lo n) [it] it (fun i h => IsRangeIter h it (lo + (i : Nat) * 1) ((n : Int) - (i : Nat)) 1) where
  mem := by simp
  obj := fun i h st b hb => by
    have e : b = it := by simpa using hb
    subst e
    exact ⟨_, st, fun v z => by
      have z' : Data.fields _ = Data.cell v := z
      cases z'⟩
  keep := fun i h h' st k => k it (by simp) _ st
  item := by
    intro X hP hw hK hc i pins s σ H E I hf st hg
    subst hP hw hK
    obtain ⟨f0, f1, f2, f3, f4, f5⟩ := hf it (by simp)
    have W := Walks.range (prog := X.prog) (w := X.w) (I.ok.hd hc) it lo 1 n
    refine W.item i s _ _ hg st fun v h' tk hv st' kk => ?_
    obtain ⟨t, rfl⟩ := hv
    have I1 : Inv X pins σ H { s with heap := h', toks := tk } := I.turned (fun b o hb e => kk b o (by simpa using hb) e) f0 f1 f3 f4 f5
    refine ⟨_, rfl, go_of (s := { s with heap := h', toks := tk }) (n := "range_iterator") st' rfl rfl (by decide) ⟨.int (lo + i), H, I1, ⟨t, ?_⟩, ⟨rfl, rfl⟩, st', fun b hb => (hf b hb).1⟩⟩
    rw [Int.mul_one]
  done := by
    intro X hP hw hK hc i pins s σ H E I hf st hg
    subst hP hw hK
    obtain ⟨f0, f1, f2, f3, f4, f5⟩ := hf it (by simp)
    exact wpAny_pyNext_range_end (I.ok.hd hc) st (by have : n ≤ i := hg; omega) fun h' eb => ⟨rfl, I.turned (t' := s.toks) (fun b o hb e => eb b o hb e) f0 f1 f3 f4 f5⟩
  self := fun _ _ _ _ _ st h => wpAny_pyIter_rangeiter st h
end L2

namespace L2
open PySem PySem.Spec PyProof.Rows
section
variable {X : Cx} {tg : Expr}
def iList (K : PySem.W.Frag) (tl : TE) : TI := fun σ H R => tl σ H fun x H1 => ∃ a, x = .ref a ∧ (∃ xs, SqL K H1 a xs) ∧ R (Itl K a) H1
def iTup (K : PySem.W.Frag) (tl : TE) : TI := fun σ H R => tl σ H fun x H1 => ∃ a, x = .ref a ∧ (∃ xs, SqT K H1 a xs) ∧ R (Itt K a) H1
theorem pi_list {l : Expr} {tl : TE} (hl : PE X l tl) : PI X tg l (iList X.K tl) := by
  intro pins s σ H R I h
  refine thn (hl pins s σ H _ I h) fun v s1 ⟨x, H1, I1, r1, q1⟩ => ?_
  obtain ⟨a, e, ⟨xs, hq⟩, q⟩ := q1
  subst e
  cases r1
  obtain ⟨its, rv, p, hz⟩ := I1.list hq
  refine wpAny_pyIter_list p.isList ?_
  refine ⟨s1.heap.objs.size, [s1.heap.objs.size], _, _, H1, rfl, I1.kept (t' := s1.toks) fun b o e => Heap.get?_push_of_some _ e, turn_list a _, ⟨_, Heap.get?_push_size _ rfl, rfl, rfl⟩, fun b hb => ?_, q⟩
  have e : b = s1.heap.objs.size := by simpa using hb
  subst e
  exact I1.fpOk (Nat.le_refl _) (I1.hok.fresh (Nat.le_refl _))
theorem pi_tup {l : Expr} {tl : TE} (hl : PE X l tl) : PI X tg l (iTup X.K tl) := by
  intro pins s σ H R I h
  refine thn (hl pins s σ H _ I h) fun v s1 ⟨x, H1, I1, r1, q1⟩ => ?_
  obtain ⟨a, e, ⟨xs, hq⟩, q⟩ := q1
  subst e
  cases r1
  obtain ⟨its, rv, p, hz⟩ := I1.tuple hq
  refine wpAny_pyIter_tuple (show s1.heap.IsTuple a its.toArray from p) ?_
  refine ⟨s1.heap.objs.size, [s1.heap.objs.size], _, _, H1, rfl, I1.kept (t' := s1.toks) fun b o e => Heap.get?_push_of_some _ e, turn_tuple a _, ⟨_, Heap.get?_push_size _ rfl, rfl, rfl⟩, fun b hb => ?_, q⟩
  have e : b = s1.heap.objs.size := by simpa using hb
  subst e
  exact I1.fpOk (Nat.le_refl _) (I1.hok.fresh (Nat.le_refl _))
/-- a range object just made, walked -/
theorem range_it {pins : List (Addr × Obj)} {σ : St} {H : Hp} {s : Shared} {R : It → Hp → Prop} {E : Value → Shared → Prop} {lo hi : Int} {t u v : Tok} {tk : Nat} (I : Inv X pins σ H s) (h1 : -(2 ^ 62) ≤ lo) (h2 : lo < 2 ^ 62) (h3 : -(2 ^ 62) ≤ hi) (h4 : hi < 2 ^ 62)
    (q : R (Itr lo (hi - lo).toNat) H) : wpAny (model X.prog X.w) X.A (pyIter (.ref s.heap.objs.size)) (PIE X pins σ tg R) E { s with heap := s.heap.push { cls := .type "range", data := .fields #[.int lo t, .int hi u, .int 1 v] }, toks := tk } := by
  refine wpAny_pyIter_range (IsRange.new ..) (small_one h1 h2 h3 h4) ?_
  have I1 : Inv X pins σ H { s with heap := s.heap.push { cls := .type "range", data := .fields #[.int lo t, .int hi u, .int 1 v] }, toks := tk } := I.kept fun b o e => Heap.get?_push_of_some _ e
  refine ⟨(s.heap.push { cls := .type "range", data := .fields #[.int lo t, .int hi u, .int 1 v] }).objs.size, [(s.heap.push { cls := .type "range", data := .fields #[.int lo t, .int hi u, .int 1 v] }).objs.size], _, _, H, rfl,
    I1.kept (t' := tk) fun b o e => Heap.get?_push_of_some _ e, turn_range _ lo (hi - lo).toNat, ?_, fun b hb => ?_, q⟩
  · have e1 : lo + ((0 : Nat) : Int) * 1 = lo := by simp
    have e2 : (((hi - lo).toNat : Nat) : Int) - ((0 : Nat) : Int) = Builtin.Range.rangeSize lo hi 1 := by rw [rangeSize_one]; split <;> omega
    show IsRangeIter _ _ (lo + ((0 : Nat) : Int) * 1) ((((hi - lo).toNat : Nat) : Int) - ((0 : Nat) : Int)) 1
    rw [e1, e2]
    exact Heap.get?_push_size _ rfl
  · have e : b = (s.heap.push { cls := .type "range", data := .fields #[.int lo t, .int hi u, .int 1 v] }).objs.size := by simpa using hb
    subst e
    exact I1.fpOk (Nat.le_refl _) (I1.hok.fresh (Nat.le_refl _))
def iRng1 (ta : TA) : TI := fun σ H R => ta σ H fun vs H1 => ∃ j : Int, vs = [.int j] ∧ -(2 ^ 62) ≤ j ∧ j < 2 ^ 62 ∧ R (Itr 0 j.toNat) H1
def iRng2 (ta : TA) : TI := fun σ H R => ta σ H fun vs H1 => ∃ i j : Int, vs = [.int i, .int j] ∧ (-(2 ^ 62) ≤ i ∧ i < 2 ^ 62 ∧ -(2 ^ 62) ≤ j ∧ j < 2 ^ 62) ∧ R (Itr i (j - i).toNat) H1
theorem pi_range1 {a : Expr} {ta : TA} {p pos : Pos} (hg : Gl X "range") (hm : X.mg "range" = none) (ha : PA X [a] ta) (hs : starEach [a] X.env = [(false, eval a X.env)] := by rfl) : PI X tg (.Call (.Name "range" p) [a] [] pos) (iRng1 ta) := by
  intro pins s σ H R I h
  refine Call_ (ld_blt I hg hm boot_range (PyProof.Rows.callWith_type1 (thn (ha pos pins s σ H _ I h) fun us s1 ⟨vs, H1, I1, r1, q1⟩ => ?_) hs rfl))
  obtain ⟨j, e, q1, q2, q⟩ := q1
  subst e
  cases r1 with
  | cons r rr =>
    cases rr
    obtain ⟨t, rfl⟩ := r
    exact call_range_1 (range_it I1 (by omega) (by omega) q1 q2 (by simpa using q))
theorem pi_range2 {a b : Expr} {ta : TA} {p pos : Pos} (hg : Gl X "range") (hm : X.mg "range" = none) (ha : PA X [a, b] ta) (hs : starEach [a, b] X.env = [(false, eval a X.env), (false, eval b X.env)] := by rfl) (hs2 : starEach [b] X.env = [(false, eval b X.env)] := by rfl) :
    PI X tg (.Call (.Name "range" p) [a, b] [] pos) (iRng2 ta) := by
  intro pins s σ H R I h
  refine Call_ (ld_blt I hg hm boot_range (PyProof.Rows.callWith_type1 (thn (ha pos pins s σ H _ I h) fun us s1 ⟨vs, H1, I1, r1, q1⟩ => ?_) (by rw [hs, hs2]) (by rw [hs2]; rfl)))
  obtain ⟨i, j, e, ⟨q1, q2, q3, q4⟩, q⟩ := q1
  subst e
  cases r1 with
  | cons r rr =>
    cases rr with
    | cons r' rr =>
      cases rr
      obtain ⟨t, rfl⟩ := r
      obtain ⟨t', rfl⟩ := r'
      exact call_range_2 (range_it I1 q1 q2 q3 q4 q)

/-! ### for -/
/-- W: the invariant by the turn and a measure; N: what the body is to reach -/
def tFor (wi : TI) (g : TG) (tb : TS) : TS := fun D σ H => wi σ H fun J H1 => ∃ W : Nat → Nat → St → Hp → Prop, (∃ m, W 0 m σ H1) ∧ ∀ i m σ H, W i m σ H →
  (J.stop i H ∧ D.nx σ H) ∨ (J.go i H ∧ ∃ N : St → Hp → Prop, (∀ σ' H', N σ' H' → ∃ m', m' < m ∧ W (i + 1) m' σ' H') ∧ ∀ x H', J.yld i H x H' → g x σ H' fun σ2 H2 => tb { D with nx := N, ct := N, bk := D.nx } σ2 H2)
/-- the records at fp as they stand -/
def pinsAt (fp : List Addr) (h : Heap) : List (Addr × Obj) := fp.filterMap fun b => (h.get? b).map fun o => (b, o)
theorem mem_pinsAt {fp : List Addr} {h : Heap} {b : Addr} {o : Obj} (hb : b ∈ fp) (e : h.get? b = some o) : (b, o) ∈ pinsAt fp h := List.mem_filterMap.mpr ⟨b, hb, by rw [e]; rfl⟩
theorem of_pinsAt {fp : List Addr} {h : Heap} {p : Addr × Obj} (hp : p ∈ pinsAt fp h) : p.1 ∈ fp ∧ h.get? p.1 = some p.2 := by
  obtain ⟨b, hb, e⟩ := List.mem_filterMap.mp hp
  cases q : h.get? b with
  | none => rw [q] at e; cases e
  | some o =>
    rw [q] at e
    have e' : (b, o) = p := Option.some.inj e
    subst e'
    exact ⟨hb, q⟩
theorem Inv.pinned {pins : List (Addr × Obj)} {σ : St} {H : Hp} {s : Shared} {fp : List Addr} (I : Inv X pins σ H s) (hf : ∀ b ∈ fp, FpOk X pins H b) (ho : ∀ b ∈ fp, ∃ o, s.heap.get? b = some o ∧ ∀ v, o.data ≠ .cell v) : Inv X (pins ++ pinsAt fp s.heap) σ H s :=
  I.pins_of fun p hp => (List.mem_append.mp hp).elim (fun z => I.pin p (List.mem_append_right _ z)) fun z => by
    obtain ⟨hb, e⟩ := of_pinsAt z
    obtain ⟨f0, f1, f2, _⟩ := hf p.1 hb
    obtain ⟨o, e', d⟩ := ho p.1 hb
    rw [e] at e'; cases e'
    exact ⟨e, f0, f1, f2, d⟩
theorem Inv.unpinned {pins pl : List (Addr × Obj)} {σ : St} {H : Hp} {s : Shared} (I : Inv X (pins ++ pl) σ H s) : Inv X pins σ H s := I.pins_of fun p hp => I.pin p (List.mem_append_right _ (List.mem_append_left _ hp))
theorem ps_for {iter : Expr} {body : List Stmt} {wi : TI} {g : TG} {tb : TS} {pos : Pos} (hp : PassesOwn (model X.prog X.w) X.A X.env X.xe) (hc : X.calm = true) (hi : PI X tg iter wi) (hg : PG X tg g) (hb : PSs X body tb)
    (hs : ∀ x, foldedSetIterable iter X.env x = pure x := by intro _; rfl) : PS X (.For tg iter body [] pos) (tFor wi g tb) := by
  intro pins s σ H D I h
  refine wpAny_For (thn (hi pins s σ H _ I h) fun v s1 h1 => thn h1 fun itv s2 h2 => ?_) hs
  obtain ⟨it, fp, tn, J, H2, e, I2, T, st2, f2, W, ⟨m0, w0⟩, turn⟩ := h2
  subst e
  -- what stays true of the iterator's objects through the loop
  have stat : ∀ {H' : Hp}, (∀ b ∈ fp, H' b = none) → ∀ b ∈ fp, FpOk X pins H' b := fun hn b hb => ⟨hn b hb, (f2 b hb).2⟩
  refine codeAny_forLoop_any (fun n s' => ∃ i σ' H', Inv X pins σ' H' s' ∧ tn i s'.heap ∧ (∀ b ∈ fp, H' b = none) ∧ W i n σ' H') ?_ m0 ⟨0, σ, H2, I2, st2, fun b hb => (f2 b hb).1, w0⟩
  rintro n s3 ⟨i, σ3, H3, I3, st3, fr3, w3⟩
  rcases turn i n σ3 H3 w3 with ⟨stop, qn⟩ | ⟨go, N, hN, step⟩
  · refine wpAny_passesOwn hp (thn (T.done X rfl rfl rfl hc i pins s3 σ3 H3 X.xe I3 (stat fr3) st3 stop) fun r s4 ⟨hr, I4⟩ => ?_)
    subst hr
    exact wpAny_execs_nil ⟨σ3, H3, I4, qn⟩
  · refine wpAny_passesOwn hp (thn (T.item X rfl rfl rfl hc i pins s3 σ3 H3 X.xe I3 (stat fr3) st3 go) fun r s4 ⟨u, hr, h4⟩ => ?_)
    subst hr
    refine wpAny_passesOwn hp (thn h4 fun _ s5 ⟨x, H5, I5, r5, y5, st5, fr5⟩ => ?_)
    have I5' := I5.pinned (stat fr5) (T.obj _ _ st5)
    refine wpAny_passesOwn hp (thn (hg _ s5 σ3 H5 x u _ I5' r5 (step x H5 y5)) fun _ s6 ⟨σ6, H6, I6, q6⟩ => ?_)
    refine wpAny_passesOwn hp (thn (hb _ s6 σ6 H6 _ I6 q6) fun f s7 q7 => ?_)
    have again : ∀ {σ7 : St} {H7 : Hp}, Inv X (pins ++ pinsAt fp s5.heap) σ7 H7 s7 → N σ7 H7 → ∃ m, m < n ∧ ∃ i σ' H', Inv X pins σ' H' s7 ∧ tn i s7.heap ∧ (∀ b ∈ fp, H' b = none) ∧ W i m σ' H' := fun {σ7 H7} I7 n7 => by
      obtain ⟨m', hm, w7⟩ := hN σ7 H7 n7
      refine ⟨m', hm, i + 1, σ7, H7, I7.unpinned, T.keep _ _ _ st5 fun b hb o e => (I7.pin (b, o) (List.mem_append_right _ (List.mem_append_right _ (mem_pinsAt hb e)))).1, fun b hb => ?_, w7⟩
      obtain ⟨o, e, d⟩ := T.obj _ _ st5 b hb
      exact (I7.pin (b, o) (List.mem_append_right _ (List.mem_append_right _ (mem_pinsAt hb e)))).2.1
    cases f with
    | next => obtain ⟨σ7, H7, I7, n7⟩ := q7; exact again I7 n7
    | cont => obtain ⟨σ7, H7, I7, n7⟩ := q7; exact again I7 n7
    | brk => obtain ⟨σ7, H7, I7, q7⟩ := q7; exact ⟨σ7, H7, I7.unpinned, q7⟩
    | ret v => obtain ⟨x7, σ7, H7, I7, r7, q7⟩ := q7; exact ⟨x7, σ7, H7, I7.unpinned, r7, q7⟩
end

/-! ### the forms one uses -/
/-- over a list that the body leaves as it is -/
theorem for_list {K : PySem.W.Frag} {a : Addr} {xs : List V} {g : TG} {tb : TS} {D : Ends} {σ : St} {H : Hp} (Pv : Nat → St → Hp → Prop) (h0 : Pv 0 σ H) (hl : ∀ i σ H, i ≤ xs.length → Pv i σ H → SqL K H a xs)
    (hs : ∀ i x σ H, xs[i]? = some x → Pv i σ H → g x σ H fun σ2 H2 => tb { D with nx := Pv (i + 1), ct := Pv (i + 1), bk := D.nx } σ2 H2) (hd : ∀ σ H, Pv xs.length σ H → D.nx σ H) :
    ∃ W : Nat → Nat → St → Hp → Prop, (∃ m, W 0 m σ H) ∧ ∀ i m σ H, W i m σ H →
      ((Itl K a).stop i H ∧ D.nx σ H) ∨ ((Itl K a).go i H ∧ ∃ N : St → Hp → Prop, (∀ σ' H', N σ' H' → ∃ m', m' < m ∧ W (i + 1) m' σ' H') ∧ ∀ x H', (Itl K a).yld i H x H' → g x σ H' fun σ2 H2 => tb { D with nx := N, ct := N, bk := D.nx } σ2 H2) := by
  refine ⟨fun i m σ H => m = xs.length - i ∧ i ≤ xs.length ∧ Pv i σ H, ⟨xs.length, by simp, Nat.zero_le _, h0⟩, ?_⟩
  rintro i m σ H ⟨rfl, hi, p⟩
  have q := hl i σ H hi p
  by_cases hlt : i < xs.length
  · refine .inr ⟨⟨xs, xs[i], q, by simp [hlt]⟩, Pv (i + 1), fun σ' H' p' => ⟨xs.length - (i + 1), by omega, rfl, hlt, p'⟩, fun x H' y => ?_⟩
    obtain ⟨e, y⟩ := y
    subst e
    exact hs i x σ _ (y xs q) p
  · have e : i = xs.length := by omega
    subst e
    exact .inl ⟨⟨xs, q, Nat.le_refl _⟩, hd σ H p⟩
theorem for_range {lo : Int} {n : Nat} {g : TG} {tb : TS} {D : Ends} {σ : St} {H : Hp} (Pv : Nat → St → Hp → Prop) (h0 : Pv 0 σ H)
    (hs : ∀ i σ H, i < n → Pv i σ H → g (.int (lo + i)) σ H fun σ2 H2 => tb { D with nx := Pv (i + 1), ct := Pv (i + 1), bk := D.nx } σ2 H2) (hd : ∀ σ H, Pv n σ H → D.nx σ H) :
    ∃ W : Nat → Nat → St → Hp → Prop, (∃ m, W 0 m σ H) ∧ ∀ i m σ H, W i m σ H →
      ((Itr lo n).stop i H ∧ D.nx σ H) ∨ ((Itr lo n).go i H ∧ ∃ N : St → Hp → Prop, (∀ σ' H', N σ' H' → ∃ m', m' < m ∧ W (i + 1) m' σ' H') ∧ ∀ x H', (Itr lo n).yld i H x H' → g x σ H' fun σ2 H2 => tb { D with nx := N, ct := N, bk := D.nx } σ2 H2) := by
  refine ⟨fun i m σ H => m = n - i ∧ i ≤ n ∧ Pv i σ H, ⟨n, by simp, Nat.zero_le _, h0⟩, ?_⟩
  rintro i m σ H ⟨rfl, hi, p⟩
  by_cases hlt : i < n
  · refine .inr ⟨hlt, Pv (i + 1), fun σ' H' p' => ⟨n - (i + 1), by omega, rfl, hlt, p'⟩, fun x H' y => ?_⟩
    obtain ⟨e, y⟩ := y
    subst e y
    exact hs i σ _ hlt p
  · have e : i = n := by omega
    subst e
    exact .inl ⟨Nat.le_refl _, hd σ H p⟩
end L2

namespace L2
open PySem PySem.Spec PyProof.Rows

abbrev R2 := V → V → Hp → VK → Prop
/-- a two-place operation on values: f is binaryOp op, inplaceOp op or compareOp op -/
def OpR (X : Cx) (f : Value → Value → Sem Value) (r : R2) : Prop :=
  ∀ (pins : List (Addr × Obj)) (s : Shared) (σ : St) (H : Hp) (x y : V) (v u : Value) (Q : VK), Inv X pins σ H s → RelV x v → RelV y u → r x y H Q →
    wpAny (model X.prog X.w) X.A (f v u) (EP X pins σ Q) X.xe s
/-- a one-place operation -/
def UnR (X : Cx) (f : Value → Sem Value) (r : V → Hp → VK → Prop) : Prop :=
  ∀ (pins : List (Addr × Obj)) (s : Shared) (σ : St) (H : Hp) (x : V) (v : Value) (Q : VK), Inv X pins σ H s → RelV x v → r x H Q →
    wpAny (model X.prog X.w) X.A (f v) (EP X pins σ Q) X.xe s
/-- a call of a value that is known (a builtin, a type) with values -/
def CallR (X : Cx) (f : Value) (r : List V → Hp → VK → Prop) : Prop :=
  ∀ (pins : List (Addr × Obj)) (s : Shared) (σ : St) (H : Hp) (xs : List V) (us : List Value) (Q : VK), Inv X pins σ H s → Vals xs us → r xs H Q →
    wpAny (model X.prog X.w) X.A (call f us) (EP X pins σ Q) X.xe s
def tOp (r : R2) (ta tb : TE) : TE := fun σ H Q => ta σ H fun x H1 => tb σ H1 fun y H2 => r x y H2 Q
def tUn (r : V → Hp → VK → Prop) (ta : TE) : TE := fun σ H Q => ta σ H fun x H1 => r x H1 Q
/-- ints in, under C, and a value out -/
def rI (C : Int → Int → Prop) (g : Int → Int → V) : R2 := fun x y H Q => ∃ i j, x = .int i ∧ y = .int j ∧ C i j ∧ Q (g i j) H
def rI0 (g : Int → Int → V) : R2 := fun x y H Q => ∃ i j, x = .int i ∧ y = .int j ∧ Q (g i j) H
def rU (g : Int → V) : V → Hp → VK → Prop := fun x H Q => ∃ i, x = .int i ∧ Q (g i) H

section
variable {X : Cx} {a b c : Expr} {ta tb tc : TE} {pos : Pos}

theorem binT (ha : PE X a ta) (hb : PE X b tb) {pins : List (Addr × Obj)} {s : Shared} {σ : St} {H : Hp} {R : V → V → Hp → Prop} (I : Inv X pins σ H s)
    (h : ta σ H fun x H1 => tb σ H1 fun y H2 => R x y H2) {Q : Value → Shared → Prop} {f : Value → Value → Sem Value}
    (hf : ∀ v u s2 x y H2, Inv X pins σ H2 s2 → RelV x v → RelV y u → R x y H2 → wpAny (model X.prog X.w) X.A (f v u) Q X.xe s2) :
    wpAny (model X.prog X.w) X.A (eval a X.env) (fun v s₁ => wpAny (model X.prog X.w) X.A (eval b X.env) (fun u s₂ => wpAny (model X.prog X.w) X.A (f v u) Q X.xe s₂) X.xe s₁) X.xe s := by
  refine thn (ha pins s σ H _ I h) fun v s1 ⟨x, H1, I1, r1, q1⟩ => ?_
  refine thn (hb pins s1 σ H1 _ I1 q1) fun u s2 ⟨y, H2, I2, r2, q2⟩ => ?_
  exact hf v u s2 x y H2 I2 r1 r2 q2

theorem pe_op {op : Operator} {r : R2} (ho : OpR X (binaryOp op) r) (ha : PE X a ta) (hb : PE X b tb) : PE X (.BinOp a op b pos) (tOp r ta tb) := by
  intro pins s σ H Q I h
  exact wpAny_BinOp (binT ha hb I h fun v u s2 x y H2 I2 rx ry q => ho pins s2 σ H2 x y v u Q I2 rx ry q)
theorem pe_un {op : UnaryOp} {r : V → Hp → VK → Prop} (ho : UnR X (unaryOp op) r) (ha : PE X a ta) : PE X (.UnaryOp op a pos) (tUn r ta) := by
  intro pins s σ H Q I h
  exact UnaryOp_ (thn (ha pins s σ H _ I h) fun v s1 ⟨x, H1, I1, r1, q1⟩ => ho pins s1 σ H1 x v Q I1 r1 q1)
/-! ### ints -/
theorem opI {f : Value → Value → Sem Value} {C : Int → Int → Prop} {g : Int → Int → Int}
    (rule : ∀ (i j : Int) (t u : Tok) (s : Shared) (Q : Value → Shared → Prop) (E : Value → Shared → Prop), C i j → Q (.int (g i j) s.toks) { s with toks := s.toks + 1 } → wpAny (model X.prog X.w) X.A (f (.int i t) (.int j u)) Q E s) :
    OpR X f (rI C fun i j => .int (g i j)) := by
  intro pins s σ H x y v u Q I rx ry h
  obtain ⟨i, j, rfl, rfl, hc, q⟩ := h
  obtain ⟨t, rfl⟩ := rx
  obtain ⟨t', rfl⟩ := ry
  exact rule i j t t' s _ _ hc ⟨.int (g i j), H, I.tok _, ⟨_, rfl⟩, q⟩
theorem opI0 {f : Value → Value → Sem Value} {g : Int → Int → Int}
    (rule : ∀ (i j : Int) (t u : Tok) (s : Shared) (Q : Value → Shared → Prop) (E : Value → Shared → Prop), Q (.int (g i j) s.toks) { s with toks := s.toks + 1 } → wpAny (model X.prog X.w) X.A (f (.int i t) (.int j u)) Q E s) :
    OpR X f (rI0 fun i j => .int (g i j)) := by
  intro pins s σ H x y v u Q I rx ry h
  obtain ⟨i, j, rfl, rfl, q⟩ := h
  obtain ⟨t, rfl⟩ := rx
  obtain ⟨t', rfl⟩ := ry
  exact rule i j t t' s _ _ ⟨.int (g i j), H, I.tok _, ⟨_, rfl⟩, q⟩
theorem opB0 {f : Value → Value → Sem Value} {g : Int → Int → Bool}
    (rule : ∀ (i j : Int) (t u : Tok) (s : Shared) (Q : Value → Shared → Prop) (E : Value → Shared → Prop), Q (.bool (g i j)) s → wpAny (model X.prog X.w) X.A (f (.int i t) (.int j u)) Q E s) :
    OpR X f (rI0 fun i j => .bl (g i j)) := by
  intro pins s σ H x y v u Q I rx ry h
  obtain ⟨i, j, rfl, rfl, q⟩ := h
  obtain ⟨t, rfl⟩ := rx
  obtain ⟨t', rfl⟩ := ry
  exact rule i j t t' s _ _ ⟨.bl (g i j), H, I, rfl, q⟩

def CPow (i j : Int) : Prop := 0 ≤ j ∧ j ≤ 1000000 ∧ i.natAbs < 2 ^ 64
def CMul (i j : Int) : Prop := (-(2 ^ 64) < i ∧ i < 2 ^ 64) ∨ (-(2 ^ 64) < j ∧ j < 2 ^ 64)
theorem CMul.ok {i j : Int} (h : CMul i j) : IntMulOk i j := by
  rcases h with ⟨h1, h2⟩ | ⟨h1, h2⟩
  · exact .of_left (intBits_le_64 h1 h2)
  · exact .of_right (intBits_le_64 h1 h2)
theorem op_add : OpR X (binaryOp .Add) (rI0 fun i j => .int (i + j)) := opI0 fun _ _ _ _ _ _ _ q => add_int q
theorem op_sub : OpR X (binaryOp .Sub) (rI0 fun i j => .int (i - j)) := opI0 fun _ _ _ _ _ _ _ q => sub_int q
theorem op_mul : OpR X (binaryOp .Mult) (rI CMul fun i j => .int (i * j)) := opI fun _ _ _ _ _ _ _ hc q => mul_int q hc.ok
/-- % by a positive divisor of any size -/
theorem op_mod : OpR X (binaryOp .Mod) (rI (fun _ j => 0 < j) fun i j => .int (i % j)) := opI fun i j _ _ _ _ _ hc q => by
  have h1 : (0 : Int) < j := hc
  exact mod_int' (by omega) (by rw [Int.fmod_eq_emod_of_nonneg i (by omega)]; exact q)
theorem unI {f : Value → Sem Value} {g : Int → Int}
    (rule : ∀ (i : Int) (t : Tok) (s : Shared) (Q : Value → Shared → Prop) (E : Value → Shared → Prop), Q (.int (g i) s.toks) { s with toks := s.toks + 1 } → wpAny (model X.prog X.w) X.A (f (.int i t)) Q E s) :
    UnR X f (rU fun i => .int (g i)) := by
  intro pins s σ H x v Q I rx h
  obtain ⟨i, rfl, q⟩ := h
  obtain ⟨t, rfl⟩ := rx
  exact rule i t s _ _ ⟨.int (g i), H, I.tok _, ⟨_, rfl⟩, q⟩
theorem un_neg : UnR X (unaryOp .USub) (rU fun i => .int (-i)) := unI fun _ _ _ _ _ q => neg_int q
/-! ### bools among ints: n += (a < b) -/
end

/-! ### comparisons -/
/-- the scalars that == tells apart as data does -/
def scal : V → V → Bool
  | .non, .non => true | .non, .int _ => true | .int _, .non => true | .non, .bl _ => true | .bl _, .non => true | .non, .str _ => true | .str _, .non => true
  | .int _, .int _ => true | .bl _, .bl _ => true | .str _, .str _ => true | .byt _, .byt _ => true
  | .int _, .str _ => true | .str _, .int _ => true | .bl _, .str _ => true | .str _, .bl _ => true
  | _, _ => false
def rEq : R2 := fun x y H Q => scal x y = true ∧ Q (.bl (decide (x = y))) H
def rNe : R2 := fun x y H Q => scal x y = true ∧ Q (.bl (!decide (x = y))) H

theorem dec_int {i j : Int} : decide (V.int i = V.int j) = (i == j) := by
  rw [Bool.eq_iff_iff]
  simp
theorem dec_bl {i j : Bool} : decide (V.bl i = V.bl j) = (i == j) := by
  rw [Bool.eq_iff_iff]
  simp
theorem dec_str {i j : Str} : decide (V.str i = V.str j) = (i == j) := by
  rw [Bool.eq_iff_iff]
  simp
theorem dec_byt {i j : Array UInt8} : decide (V.byt i = V.byt j) = (i.toList == j.toList) := by
  rw [Bool.eq_iff_iff]
  cases i
  cases j
  simp

section
variable {X : Cx} {a b c : Expr} {ta tb tc : TE} {pos : Pos}
theorem fin_bl {pins : List (Addr × Obj)} {σ : St} {H : Hp} {s : Shared} {Q : VK} {k k' : Bool} (I : Inv X pins σ H s) (q : Q (.bl k) H) (e : k = k') : EP X pins σ Q (.bool k') s := by
  subst e
  exact ⟨.bl k, H, I, rfl, q⟩
theorem op_eq : OpR X (compareOp .Eq) rEq := by
  intro pins s σ H x y v u Q I rx ry h
  obtain ⟨hs, q⟩ := h
  cases x with
  | non =>
    cases rx
    cases y with
    | non => cases ry; exact PySem.EqNone.eq_none_none (fin_bl I q (by simp))
    | bl j => cases ry; exact PySem.EqNone.eq_none_bool (fin_bl I q (by simp))
    | int j => obtain ⟨t', rfl⟩ := ry; exact PySem.EqNone.eq_none_int (fin_bl I q (by simp))
    | str j => obtain ⟨t', rfl⟩ := ry; exact PySem.EqNone.eq_none_str (fin_bl I q (by simp))
    | _ => exact absurd (show false = true from hs) Bool.false_ne_true
  | bl i =>
    cases rx
    cases y with
    | non => cases ry; exact PySem.EqNone.eq_bool_none (fin_bl I q (by simp))
    | bl j => cases ry; exact eq_bool (fin_bl I q dec_bl)
    | str j => obtain ⟨t', rfl⟩ := ry; exact PySem.EqMixed.eq_bool_str (fin_bl I q (by simp))
    | _ => exact absurd (show false = true from hs) Bool.false_ne_true
  | int i =>
    obtain ⟨t, rfl⟩ := rx
    cases y with
    | non => cases ry; exact PySem.EqNone.eq_int_none (fin_bl I q (by simp))
    | int j => obtain ⟨t', rfl⟩ := ry; exact eq_int (fin_bl I q dec_int)
    | str j => obtain ⟨t', rfl⟩ := ry; exact PySem.EqMixed.eq_int_str (fin_bl I q (by simp))
    | _ => exact absurd (show false = true from hs) Bool.false_ne_true
  | str i =>
    obtain ⟨t, rfl⟩ := rx
    cases y with
    | non => cases ry; exact PySem.EqNone.eq_str_none (fin_bl I q (by simp))
    | bl j => cases ry; exact PySem.EqMixed.eq_str_bool (fin_bl I q (by simp))
    | int j => obtain ⟨t', rfl⟩ := ry; exact PySem.EqMixed.eq_str_int (fin_bl I q (by simp))
    | str j => obtain ⟨t', rfl⟩ := ry; exact eq_str (fin_bl I q dec_str)
    | _ => exact absurd (show false = true from hs) Bool.false_ne_true
  | byt i =>
    obtain ⟨t, rfl⟩ := rx
    cases y with
    | byt j => obtain ⟨t', rfl⟩ := ry; exact PySem.W.eq_bytes (fin_bl I q dec_byt)
    | _ => exact absurd (show false = true from hs) Bool.false_ne_true
  | _ => cases y <;> exact absurd (show false = true from hs) Bool.false_ne_true
theorem op_ne : OpR X (compareOp .NotEq) rNe := by
  intro pins s σ H x y v u Q I rx ry h
  obtain ⟨hs, q⟩ := h
  cases x with
  | non =>
    cases rx
    cases y with
    | non => cases ry; exact PySem.EqNone.ne_none_none (fin_bl I q (by simp))
    | bl j => cases ry; exact PySem.EqNone.ne_none_bool (fin_bl I q (by simp))
    | int j => obtain ⟨t', rfl⟩ := ry; exact PySem.EqNone.ne_none_int (fin_bl I q (by simp))
    | str j => obtain ⟨t', rfl⟩ := ry; exact PySem.EqNone.ne_none_str (fin_bl I q (by simp))
    | _ => exact absurd (show false = true from hs) Bool.false_ne_true
  | bl i =>
    cases rx
    cases y with
    | non => cases ry; exact PySem.EqNone.ne_bool_none (fin_bl I q (by simp))
    | bl j => cases ry; exact ne_bool (fin_bl I q (congrArg not dec_bl))
    | str j => obtain ⟨t', rfl⟩ := ry; exact PySem.EqMixed.ne_bool_str (fin_bl I q (by simp))
    | _ => exact absurd (show false = true from hs) Bool.false_ne_true
  | int i =>
    obtain ⟨t, rfl⟩ := rx
    cases y with
    | non => cases ry; exact PySem.EqNone.ne_int_none (fin_bl I q (by simp))
    | int j => obtain ⟨t', rfl⟩ := ry; exact ne_int (fin_bl I q (congrArg not dec_int))
    | str j => obtain ⟨t', rfl⟩ := ry; exact PySem.EqMixed.ne_int_str (fin_bl I q (by simp))
    | _ => exact absurd (show false = true from hs) Bool.false_ne_true
  | str i =>
    obtain ⟨t, rfl⟩ := rx
    cases y with
    | non => cases ry; exact PySem.EqNone.ne_str_none (fin_bl I q (by simp))
    | bl j => cases ry; exact PySem.EqMixed.ne_str_bool (fin_bl I q (by simp))
    | int j => obtain ⟨t', rfl⟩ := ry; exact PySem.EqMixed.ne_str_int (fin_bl I q (by simp))
    | str j => obtain ⟨t', rfl⟩ := ry; exact ne_str (fin_bl I q (congrArg not dec_str))
    | _ => exact absurd (show false = true from hs) Bool.false_ne_true
  | byt i =>
    obtain ⟨t, rfl⟩ := rx
    cases y with
    | byt j => obtain ⟨t', rfl⟩ := ry; exact PySem.W.ne_bytes (fin_bl I q (congrArg not dec_byt))
    | _ => exact absurd (show false = true from hs) Bool.false_ne_true
  | _ => cases y <;> exact absurd (show false = true from hs) Bool.false_ne_true

theorem op_lt : OpR X (compareOp .Lt) (rI0 fun i j => .bl (decide (i < j))) := opB0 fun _ _ _ _ _ _ _ q => lt_int q
theorem op_le : OpR X (compareOp .LtE) (rI0 fun i j => .bl (decide (i ≤ j))) := opB0 fun _ _ _ _ _ _ _ q => le_int q
theorem op_gt : OpR X (compareOp .Gt) (rI0 fun i j => .bl (decide (j < i))) := opB0 fun _ _ _ _ _ _ _ q => gt_int q
/-- is None, is not None: the right side a value none -/
theorem op_isN : OpR X (compareOp .Is) (fun x y H Q => y = .non ∧ Q (.bl (decide (x = .non))) H) := by
  intro pins s σ H x y v u Q I rx ry h
  obtain ⟨rfl, q⟩ := h
  cases ry
  refine is_none_gen (fin_bl I q ?_)
  cases x <;> first
    | (cases rx; rfl)
    | (obtain ⟨t, rfl⟩ := rx; rfl)
theorem op_notN : OpR X (compareOp .IsNot) (fun x y H Q => y = .non ∧ Q (.bl (!decide (x = .non))) H) := by
  intro pins s σ H x y v u Q I rx ry h
  obtain ⟨rfl, q⟩ := h
  cases ry
  refine isnot_none_gen (fin_bl I q ?_)
  cases x <;> first
    | (cases rx; rfl)
    | (obtain ⟨t, rfl⟩ := rx; rfl)

/-- two rules for one operation: by cases -/
theorem OpR.or {f : Value → Value → Sem Value} {r r' : R2} (h : OpR X f r) (h' : OpR X f r') : OpR X f (fun x y H Q => r x y H Q ∨ r' x y H Q) := by
  intro pins s σ H x y v u Q I rx ry q
  rcases q with q | q
  · exact h pins s σ H x y v u Q I rx ry q
  · exact h' pins s σ H x y v u Q I rx ry q

theorem nomark (b : Expr) {op : CmpOp} (h : op ≠ .In := by decide) (h2 : op ≠ .NotIn := by decide) : behindInMarks op b = false := by
  have e1 : (op == CmpOp.In) = false := by cases op <;> first | rfl | exact absurd rfl h
  have e2 : (op == CmpOp.NotIn) = false := by cases op <;> first | rfl | exact absurd rfl h2
  cases b <;> simp [behindInMarks, e1, e2]
/-- a comparison as a value; hm: nomark b, or (for in, not in) by with_unfolding_all rfl -/
theorem pe_cmpR {op : CmpOp} {r : R2} (ho : OpR X (compareOp op) r) (ha : PE X a ta) (hb : PE X b tb) (hm : behindInMarks op b = false) : PE X (.Compare a [op] [b] pos) (tOp r ta tb) := by
  intro pins s σ H Q I h
  exact wpAny_Compare1 (binT ha hb I h fun v u s2 x y H2 I2 rx ry q => ho pins s2 σ H2 x y v u Q I2 rx ry q) hm
/-- a reading of a value as a test -/
def tTest (t : TE) : TT := fun σ H Q => t σ H fun x H' => ∃ k, x = .bl k ∧ Q k H'
theorem pt_cmpR {op : CmpOp} {r : R2} (ho : OpR X (compareOp op) r) (ha : PE X a ta) (hb : PE X b tb) (hm : behindInMarks op b = false) : PT X (.Compare a [op] [b] pos) (tTest (tOp r ta tb)) := by
  intro pins s σ H Q I h
  refine wpAny_isTrue_Compare1 (thn (ha pins s σ H _ I h) fun v s1 ⟨x, H1, I1, r1, q1⟩ => thn (hb pins s1 σ H1 _ I1 q1) fun u s2 ⟨y, H2, I2, r2, q2⟩ =>
    thn (ho pins s2 σ H2 x y v u _ I2 r1 r2 q2) fun c s3 ⟨z, H3, I3, r3, k, e, q3⟩ => ?_) hm
  subst e
  cases r3
  exact wpAny_truthy_bool ⟨H3, I3, q3⟩
/-- a op1 b op2 c -/
def tChain (r r' : R2) (ta tb tc : TE) : TE := fun σ H Q => ta σ H fun x H1 => tb σ H1 fun y H2 => r x y H2 fun z H3 => ∃ k, z = .bl k ∧
  (if k = true then tc σ H3 fun w' H4 => r' y w' H4 Q else Q (.bl false) H3)
theorem pe_chain {op op' : CmpOp} {r r' : R2} (ho : OpR X (compareOp op) r) (ho' : OpR X (compareOp op') r') (ha : PE X a ta) (hb : PE X b tb) (hc : PE X c tc)
    (hm : lastMarks [op, op'] [b, c] = false := by with_unfolding_all rfl) : PE X (.Compare a [op, op'] [b, c] pos) (tChain r r' ta tb tc) := by
  intro pins s σ H Q I h
  refine Compare_chain (thn (ha pins s σ H _ I h) fun v s1 ⟨x, H1, I1, r1, q1⟩ => chain_link (thn (hb pins s1 σ H1 _ I1 q1) fun u s2 ⟨y, H2, I2, r2, q2⟩ =>
    thn (ho pins s2 σ H2 x y v u _ I2 r1 r2 q2) fun d s3 ⟨z, H3, I3, r3, k, e, q3⟩ => ?_)) hm
  subst e
  cases r3
  refine wpAny_truthy_bool ?_
  cases k with
  | false => exact ite_ff ⟨.bl false, H3, I3, rfl, q3⟩
  | true => exact ite_tt (chain_last (thn (hc pins s3 σ H3 _ I3 q3) fun w' s4 ⟨z', H4, I4, r4, q4⟩ => ho' pins s4 σ H4 y z' u w' Q I4 r2 r4 q4))
/-! ### truth -/
theorem line63 : (sizeLine : Nat) < 2 ^ 63 := by rw [sizeLine_eq]; decide
/-! ### strs and bytes -/
/-! ### scalar builtins, by CallR -/
theorem vals1 {x : V} {us : List Value} (r : Vals [x] us) : ∃ u, us = [u] ∧ RelV x u := by
  cases r with
  | cons r1 r2 => cases r2; exact ⟨_, rfl, r1⟩
theorem vals2 {x y : V} {us : List Value} (r : Vals [x, y] us) : ∃ u w', us = [u, w'] ∧ RelV x u ∧ RelV y w' := by
  cases r with
  | cons r1 r2 =>
    cases r2 with
    | cons r3 r4 => cases r4; exact ⟨_, _, rfl, r1, r3⟩
theorem call_max2 (hc : X.calm = true) : CallR X (.builtin "max") (fun xs H Q => ∃ i j, xs = [.int i, .int j] ∧ Q (.int (if j > i then j else i)) H) := by
  intro pins s σ H xs us Q I r h
  obtain ⟨i, j, rfl, q⟩ := h
  obtain ⟨u, w', rfl, ⟨t, rfl⟩, ⟨t', rfl⟩⟩ := vals2 r
  refine max_two_ints (I.ok.hd hc) fun h' tk k => ⟨_, H, I.kept k, ?_, q⟩
  by_cases hj : j > i
  · rw [if_pos hj, if_pos hj]; exact ⟨_, rfl⟩
  · rw [if_neg hj, if_neg hj]; exact ⟨_, rfl⟩
theorem call_min2 (hc : X.calm = true) : CallR X (.builtin "min") (fun xs H Q => ∃ i j, xs = [.int i, .int j] ∧ Q (.int (if j < i then j else i)) H) := by
  intro pins s σ H xs us Q I r h
  obtain ⟨i, j, rfl, q⟩ := h
  obtain ⟨u, w', rfl, ⟨t, rfl⟩, ⟨t', rfl⟩⟩ := vals2 r
  refine min_two_ints (I.ok.hd hc) fun h' tk k => ⟨_, H, I.kept k, ?_, q⟩
  by_cases hj : j < i
  · rw [if_pos hj, if_pos hj]; exact ⟨_, rfl⟩
  · rw [if_neg hj, if_neg hj]; exact ⟨_, rfl⟩
end
end L2

namespace L2
open PySem PySem.Spec PyProof.Rows

/-! ### an instance, its attributes a map -/
structure ObjM (h : Heap) (x dx C : Addr) (mA : Str → Option Value) : Prop where
  obj : h.get? x = some (PySem.W.instObj C dx)
  ns : h.Ns1 dx mA
  ne : dx ≠ x

theorem lookIn_ns {h : Heap} {dx : Addr} {mA : Str → Option Value} (n : h.Ns1 dx mA) : ∃ od, h.get? dx = some od ∧ ∀ name, PySem.W.lookIn name od = some (mA name) := by
  obtain ⟨o, es, ep, ho, hd, hk, _, hm⟩ := n
  refine ⟨o, ho, fun name => ?_⟩
  have e := hm name
  unfold nsFind findBy at e
  rw [← Array.find?_toList] at e
  unfold PySem.W.lookIn
  rw [hd]
  dsimp only
  split
  · rename_i y q
    rw [q] at e
    exact congrArg some e
  · rename_i q
    rw [q] at e
    have a : es.toList.any (·.refKey) = false := by
      rw [List.any_eq_false]
      intro y hy
      obtain ⟨z, t, hkey⟩ := hk y (Array.mem_toList_iff.mp hy)
      simp [DictEntry.refKey, hkey]
    have a' : ¬ es.toList.any (·.refKey) = true := by rw [a]; exact Bool.false_ne_true
    rw [if_neg a']
    exact congrArg some e

theorem ObjM.look {h : Heap} {x dx C : Addr} {mA : Str → Option Value} (I : ObjM h x dx C mA) : ∃ od, PySem.W.InstAt h x (PySem.W.instObj C dx) C (some od) ∧ ∀ name, PySem.W.lookIn name od = some (mA name) :=
  let ⟨od, ho, hl⟩ := lookIn_ns I.ns
  ⟨od, ⟨I.obj, rfl, rfl, ho⟩, hl⟩

section
variable {prog : Program} {w : World} {A : Around} {E : Value → Shared → Prop} {s : Shared} {K : PySem.W.Frag} {x dx C f : Addr} {mA : Str → Option Value} {name : Str} {v : Value}

theorem get_map {expr : Bool} {Q : Value → Shared → Prop} (X : K.In s.heap) (I : ObjM s.heap x dx C mA) (hg : PySem.W.plainGet K C name = true) (hh : PySem.W.hasDictIn K C = true)
    (ha : PySem.W.findIn K (.ref C) name = some none) (hv : mA name = some v) (hv' : PySem.W.handedIn v = true) (h : Q v { s with toks := s.toks + 1 }) :
    wpAny (model prog w) A (getAttr (.ref x) name expr) Q E s := by
  obtain ⟨od, J, hl⟩ := I.look
  exact PySem.W.get_value X J (PySem.W.plainGet_of hg).1 (PySem.W.findObj_own hh ha rfl (by rw [hl, hv])) hv' h

theorem get_meth {pl : Sem Bool} {Q : Value × List Value → Shared → Prop} (X : K.In s.heap) (I : ObjM s.heap x dx C mA) (hg : PySem.W.plainGet K C name = true)
    (hf : PySem.W.findIn K (.ref C) name = some (some (.ref f))) (ht : PySem.W.isFn K (.ref f) = true) (hv : mA name = none) (h : Q (.ref f, [.ref x]) s) :
    wpAny (model prog w) A (getMethod (.ref x) name pl) Q E s := by
  obtain ⟨od, J, hl⟩ := I.look
  exact PySem.W.method_fn X J (PySem.W.plainGet_of hg).1 (PySem.W.plainGet_of hg).2 hf (beq_iff_eq.mp ht) (by show (PySem.W.lookIn name od).map (·.isSome) = some false; rw [hl, hv]; rfl) h

theorem set_map {ns : List Str} {Q : Unit → Shared → Prop} (X : K.In s.heap) (I : ObjM s.heap x dx C mA)
    (hs : PySem.W.findIn K (.ref C) "__setattr__" = some (some (.builtin "object.__setattr__"))) (hp : PySem.W.plainOver K C = true) (ht : PySem.W.takerIn K C name = some none) (hh : PySem.W.hasDictIn K C = true)
    (hw : PySem.Within mA ns) (hsz : ns.length ≤ sizeLine)
    (h : ∀ h', ObjM h' x dx C (fun y => if y = name then some v else mA y) → Heap.SameBut dx s.heap h' → Q () { s with heap := h', toks := s.toks + 2 }) :
    wpAny (model prog w) A (setAttr (.ref x) name v) Q E s := by
  obtain ⟨od, J, hl⟩ := I.look
  refine PySem.W.set_plain X J hs (PySem.W.osa_open (s := { s with toks := s.toks + 1 }) (r := none) X J hp ht fun b => ?_)
  obtain ⟨cd, hc, hd'⟩ := PySem.W.any_some hh
  have hx : s.heap.get? x = some ⟨.ref C, some dx, .plain, #[]⟩ := I.obj
  refine wpAny_bind (wpAny_pure (wpAny_bind (wpAny_bind (wpAny_loadPart hx (wpAny_bind (PySem.W.Looks.here (s := { s with toks := s.toks + 1 }) (PySem.W.looks_clsIn X hc) ?_))))))
  rw [hd']
  refine wpAny_pure (a := some dx) (wpAny_bind (wpAny_pure (wpAny_bind ?_)))
  refine wpAny_nsSet1 (s := { s with toks := s.toks + 1 }) I.ns fun h' hn2 hs2 => ?_
  obtain ⟨oD, esD, epD, hoD, hdD, hcD⟩ := hn2.count (PySem.Within.cons name v hw)
  refine wpAny_bind (wpAny_lookBehind hoD (by rw [hdD]; exact pastItsLine_dict (Nat.le_trans hcD (by rw [List.length_cons]; omega))) ?_)
  exact wpAny_pure (h _ ⟨(hs2.2 _ (Ne.symm I.ne)).trans I.obj, hn2, I.ne⟩ hs2)

/-- C(..): the dict at the heap's end, the instance behind it; then its __init__ -/
theorem make_map {R : Result → Shared → Prop} {vs : List Value} {kw : List (Str × Value)} (X : K.In s.heap) (hm : PySem.W.makesIn K C = true)
    (hi : PySem.W.findIn K (.ref C) "__init__" = some (some (.ref f))) (hf : PySem.W.typeIn K (.ref f) = some (.type "function"))
    (h : codeAny (model prog w) (A.under (.builtin "type.__call__" ⟨.ref C :: vs, kw⟩)) (.call (.ref f) ⟨.ref (s.heap.objs.size + 1) :: vs, kw⟩) (PySem.W.InitBack (s.heap.objs.size + 1) R)
      { s with heap := (s.heap.push PySem.W.emptyDict).push (PySem.W.instObj C s.heap.objs.size) }) :
    codeAny (model prog w) A (.call (.ref C) ⟨vs, kw⟩) R s := by
  obtain ⟨hh, g, d, t, os⟩ := s
  exact PySem.W.make_core (PySem.W.makes_of X hm) (PySem.W.looks_findIn X hi) (fun self => PySem.W.bind_fn X self hf) (.inl rfl) h
/-- C() where there is no __init__ but object's -/
theorem make_map0 {R : Result → Shared → Prop} (X : K.In s.heap) (hm : PySem.W.makesIn K C = true)
    (hi : PySem.W.findIn K (.ref C) "__init__" = some (some (.builtin "object.__init__")))
    (hb : ∀ self, PySem.W.Looks (model prog w) s.heap (bindSpecial (.builtin "object.__init__") self) (.builtin "object.__init__", [self]))
    (h : codeAny (model prog w) (A.under (.builtin "type.__call__" ⟨[.ref C], []⟩)) (.call (.builtin "object.__init__") ⟨[.ref (s.heap.objs.size + 1)], []⟩) (PySem.W.InitBack (s.heap.objs.size + 1) R)
      { s with heap := (s.heap.push PySem.W.emptyDict).push (PySem.W.instObj C s.heap.objs.size) }) :
    codeAny (model prog w) A (.call (.ref C) ⟨[], []⟩) R s := by
  obtain ⟨hh, g, d, t, os⟩ := s
  exact PySem.W.make_core (PySem.W.makes_of X hm) (PySem.W.looks_findIn X hi) hb (.inr ⟨rfl, rfl⟩) h
end

/-! ### the attributes as a list of pairs -/
def putF (f : Str) (v : V) : List (Str × V) → List (Str × V)
  | [] => [(f, v)]
  | (g, x) :: r => if g = f then (g, v) :: r else (g, x) :: putF f v r
theorem lookup_putF (f g : Str) (v : V) : ∀ fs : List (Str × V), (putF f v fs).lookup g = if g = f then some v else fs.lookup g
  | [] => by
    show List.lookup g [(f, v)] = _
    by_cases h : g = f
    · have hb : (g == f) = true := beq_iff_eq.mpr h
      simp only [List.lookup, hb, if_pos h]
    · have hb : (g == f) = false := beq_eq_false_iff_ne.mpr h
      simp only [List.lookup, hb, if_neg h]
  | (k, x) :: r => by
    have ih := lookup_putF f g v r
    rw [show putF f v ((k, x) :: r) = (if k = f then (k, v) :: r else (k, x) :: putF f v r) from rfl]
    by_cases hk : k = f
    · rw [if_pos hk]
      by_cases h : g = k
      · have hb : (g == k) = true := beq_iff_eq.mpr h
        simp only [List.lookup, hb, if_pos (h.trans hk)]
      · have hb : (g == k) = false := beq_eq_false_iff_ne.mpr h
        simp only [List.lookup, hb, if_neg (fun e : g = f => h (e.trans hk.symm))]
    · rw [if_neg hk]
      by_cases h : g = k
      · have hb : (g == k) = true := beq_iff_eq.mpr h
        simp only [List.lookup, hb, if_neg (fun e : g = f => hk (h.symm.trans e))]
      · have hb : (g == k) = false := beq_eq_false_iff_ne.mpr h
        simp only [List.lookup, hb]
        exact ih
theorem keys_putF (f : Str) (v : V) : ∀ fs : List (Str × V), f ∈ (putF f v fs).map (·.1) ∧ ∀ g, g ∈ fs.map (·.1) → g ∈ (putF f v fs).map (·.1)
  | [] => ⟨by simp [putF], fun g h => by simp at h⟩
  | (k, x) :: r => by
    obtain ⟨i1, i2⟩ := keys_putF f v r
    rw [show putF f v ((k, x) :: r) = (if k = f then (k, v) :: r else (k, x) :: putF f v r) from rfl]
    by_cases hk : k = f
    · rw [if_pos hk]
      subst hk
      exact ⟨by simp, fun g h => by simpa using h⟩
    · rw [if_neg hk]
      refine ⟨?_, fun g h => ?_⟩
      · rw [List.map_cons]
        exact List.mem_cons_of_mem _ i1
      · rw [List.map_cons] at h ⊢
        rcases List.mem_cons.mp h with e | e
        · exact List.mem_cons.mpr (.inl e)
        · exact List.mem_cons_of_mem _ (i2 g e)
theorem length_putF (f : Str) (v : V) : ∀ fs : List (Str × V), (putF f v fs).length ≤ fs.length + 1
  | [] => by simp [putF]
  | (k, x) :: r => by
    have ih := length_putF f v r
    rw [show putF f v ((k, x) :: r) = (if k = f then (k, v) :: r else (k, x) :: putF f v r) from rfl]
    by_cases hk : k = f
    · rw [if_pos hk, List.length_cons, List.length_cons]; omega
    · rw [if_neg hk, List.length_cons, List.length_cons]; omega

theorem RelO.some_of {v : V} {o : Option Value} (r : RelO (some v) o) : ∃ u, o = some u ∧ RelV v u := by
  cases o with
  | none => exact (show False from r).elim
  | some u => exact ⟨u, rfl, r⟩
theorem RelO.none_of {o : Option Value} (r : RelO none o) : o = none := by
  cases o with
  | none => rfl
  | some u => exact (show False from r).elim
theorem handed_of {v : V} {u : Value} (r : RelV v u) : PySem.W.handedIn u = true := by
  cases v with
  | non => cases (show u = Value.none from r); rfl
  | bl b => cases (show u = Value.bool b from r); rfl
  | int i => obtain ⟨t, e⟩ := (show ∃ t, u = Value.int i t from r); cases e; rfl
  | str x => obtain ⟨t, e⟩ := (show ∃ t, u = Value.str x t from r); cases e; rfl
  | byt b => obtain ⟨t, e⟩ := (show ∃ t, u = Value.bytes b t from r); cases e; rfl
  | flt b => obtain ⟨t, e⟩ := (show ∃ t, u = Value.float b t from r); cases e; rfl
  | ref a => cases (show u = Value.ref a from r); rfl
  | ty n => cases (show u = Value.type n from r); rfl

section
variable {P : Program} {w : World} {H H' : Hp} {h h' : Heap} {a C dx : Addr} {fs fs' : List (Str × V)}
theorem ins_get (hok : HOk P w H h) (e : H a = some (.ins C dx fs)) : ∃ mA, ObjM h a dx C mA ∧ (∀ f, RelO (fs.lookup f) (mA f)) ∧ PySem.Within mA (fs.map (·.1)) ∧ fs.length ≤ 1000 ∧ H dx = some (.own a) := by
  obtain ⟨d, z, ne, ob, mA, n, r, q⟩ := (show ObjOk P w H h a (.ins C dx fs) from hok a _ e)
  exact ⟨mA, ⟨ob, n, ne⟩, r, q, z, d⟩
end

/-! ### what of the text a class must have -/
structure Cls (K : PySem.W.Frag) (C : Addr) : Prop where
  pg : PySem.W.plainGet K C Str.empty = true
  hd : PySem.W.hasDictIn K C = true
  po : PySem.W.plainOver K C = true
  sa : PySem.W.findIn K (.ref C) "__setattr__" = some (some (.builtin "object.__setattr__"))
theorem Cls.get {K : PySem.W.Frag} {C : Addr} (c : Cls K C) (f : Str) : PySem.W.plainGet K C f = true := c.pg
/-- no class of it has the name -/
def NoAttr (K : PySem.W.Frag) (C : Addr) (f : Str) : Prop := PySem.W.findIn K (.ref C) f = some none
theorem NoAttr.taker {K : PySem.W.Frag} {C : Addr} {f : Str} (n : NoAttr K C f) : PySem.W.takerIn K C f = some none := by
  unfold PySem.W.takerIn
  rw [show PySem.W.findIn K (.ref C) f = some none from n]
  rfl
/-- a constant of the class -/
structure Con (K : PySem.W.Frag) (C : Addr) (f : Str) (v : V) (u : Value) : Prop where
  at_ : PySem.W.findIn K (.ref C) f = some (some u)
  rel : RelV v u
  get : PySem.W.specialIn K u "__get__" = some none
  cp : PySem.W.copiedNames.contains f = false
/-- a method: a plain def of the class or of one above it -/
structure Meth (K : PySem.W.Frag) (C : Addr) (m : Str) (f : Addr) : Prop where
  at_ : PySem.W.findIn K (.ref C) m = some (some (.ref f))
  fn : PySem.W.isFn K (.ref f) = true
  kp : PySem.W.keepIn K (.ref f) = true

section
variable {X : Cx} {pins : List (Addr × Obj)} {σ : St} {H : Hp} {s : Shared} {a C dx : Addr} {fs : List (Str × V)} {f : Str} {v : V} {A : Around} {E : Value → Shared → Prop}

theorem getattr_ok {b : Bool} {Q : Value → Shared → Prop} (I : Inv X pins σ H s) (e : H a = some (.ins C dx fs)) (c : Cls X.K C) (n : NoAttr X.K C f) (l : fs.lookup f = some v)
    (h : ∀ u s', Inv X pins σ H s' → RelV v u → Q u s') : wpAny (model X.prog X.w) A (getAttr (.ref a) f b) Q E s := by
  obtain ⟨mA, O, r, _, _, _⟩ := ins_get I.hok e
  obtain ⟨u, hu, ru⟩ := RelO.some_of (v := v) (o := mA f) (by rw [← l]; exact r f)
  exact get_map I.kIn O (c.get f) c.hd n hu (handed_of ru) (h u _ (I.tok _) ru)

theorem getmeth_ok {m : Str} {g : Addr} {pl : Sem Bool} {Q : Value × List Value → Shared → Prop} (I : Inv X pins σ H s) (e : H a = some (.ins C dx fs)) (c : Cls X.K C) (k : Meth X.K C m g) (l : fs.lookup m = none)
    (h : Q (.ref g, [.ref a]) s) : wpAny (model X.prog X.w) A (getMethod (.ref a) m pl) Q E s := by
  obtain ⟨mA, O, r, _, _, _⟩ := ins_get I.hok e
  have hn : mA m = none := RelO.none_of (by rw [← l]; exact r m)
  exact get_meth I.kIn O (c.get m) k.at_ k.fn hn h

theorem setattr_ok {y : V} {u : Value} {Q : Unit → Shared → Prop} (I : Inv X pins σ H s) (e : H a = some (.ins C dx fs)) (c : Cls X.K C) (n : NoAttr X.K C f) (hl : fs.length < 1000) (ry : RelV y u)
    (h : ∀ s', Inv X pins σ (upd H a (.ins C dx (putF f y fs))) s' → Q () s') : wpAny (model X.prog X.w) A (setAttr (.ref a) f u) Q E s := by
  obtain ⟨mA, O, r, wi, _, ho⟩ := ins_get I.hok e
  have hz : (fs.map (·.1)).length ≤ sizeLine := by rw [List.length_map, sizeLine_eq]; omega
  refine set_map I.kIn O c.sa c.po n.taker c.hd wi hz fun h' O' sb => h _ ?_
  have hd : ∃ o, h'.get? dx = some o := let ⟨o, _, _, e', _⟩ := O'.ns; ⟨o, e'⟩
  refine I.write (x := a) (e := dx) (by rw [e]; exact True.intro) (.inr ho) (fun b q hb z => (sb.2 b hb).trans z) hd ?_
  refine ⟨by rw [upd_ne O.ne]; exact ho, ?_, O.ne, O'.obj, _, O'.ns, fun g => ?_, fun g hg => ?_⟩
  · have := length_putF f y fs; omega
  · show RelO ((putF f y fs).lookup g) (if g = f then some u else mA g)
    rw [lookup_putF]
    by_cases q : g = f
    · rw [if_pos q, if_pos q]; exact ry
    · rw [if_neg q, if_neg q]; exact r g
  · by_cases q : g = f
    · rw [q]; exact (keys_putF f y fs).1
    · refine (keys_putF f y fs).2 g (wi g fun z => hg ?_)
      show (if g = f then some u else mA g) = none
      rw [if_neg q]; exact z

/-- a new instance, tracked, without attributes -/
theorem Inv.made (I : Inv X pins σ H s) : Inv X pins σ (upd (upd H s.heap.objs.size (.own (s.heap.objs.size + 1))) (s.heap.objs.size + 1) (.ins C s.heap.objs.size []))
    { s with heap := (s.heap.push PySem.W.emptyDict).push (PySem.W.instObj C s.heap.objs.size) } := by
  have e1 : (s.heap.push PySem.W.emptyDict).get? s.heap.objs.size = some PySem.W.emptyDict := Heap.get?_push_size s.heap rfl
  have e2 : ((s.heap.push PySem.W.emptyDict).push (PySem.W.instObj C s.heap.objs.size)).get? (s.heap.objs.size + 1) = some (PySem.W.instObj C s.heap.objs.size) := by
    have := Heap.get?_push_size (s.heap.push PySem.W.emptyDict) (o := PySem.W.instObj C s.heap.objs.size) rfl
    rwa [Heap.size_push] at this
  have e3 : (s.heap.push PySem.W.emptyDict).Ns s.heap.objs.size (fun _ => none) := ⟨PySem.W.emptyDict, #[], _, e1, rfl, (fun e he => absurd he (by simp)), fun _ => rfl⟩
  have I1 := I.laid (a := s.heap.objs.size) (o := .own (s.heap.objs.size + 1)) (h' := s.heap.push PySem.W.emptyDict) (t' := s.toks) (fun b u q => Heap.get?_push_of_some _ q) (Nat.le_refl _) ⟨_, e1⟩
  refine I1.laid (a := s.heap.objs.size + 1) (o := .ins C s.heap.objs.size []) (t' := s.toks) (fun b u q => Heap.get?_push_of_some _ q) (Nat.le_of_eq (Heap.size_push _ _)) ?_
  have ne : s.heap.objs.size ≠ s.heap.objs.size + 1 := Nat.ne_of_lt (Nat.lt_succ_self _)
  refine ⟨by rw [upd_ne ne, upd_same], Nat.zero_le _, ne, e2, fun _ => none, (Heap.Ns1.of_empty e3).at fun o q => Heap.get?_push_of_some _ q, fun _ => True.intro, fun y hy => absurd rfl hy⟩

/-- e.f where nothing but the object is asked: through attributeBase (super) and the last hold -/
theorem attr_of {prog : Program} {w : World} {env : Env} {e : Expr} {f : Str} {pos : Pos} {s : Shared} {Q : Value → Shared → Prop} (hb : attributeBase e f env (eval e env) = eval e env)
    (h : wpAny (model prog w) A (eval e env) (fun o s₁ => wpAny (model prog w) A (getAttr o f true) Q E s₁) E s) : wpAny (model prog w) A (eval (.Attribute e f pos) env) Q E s :=
  Attribute_any_ h (by rw [arm_eval_Attribute, hb])
end

/-! ### readings and rules -/
/-- e.f, an attribute of the instance -/
def tFld (K : PySem.W.Frag) (ta : TE) (f : Str) : TE := fun σ H Q => ta σ H fun x H1 => ∃ a C dx fs v, x = .ref a ∧ H1 a = some (.ins C dx fs) ∧ Cls K C ∧ NoAttr K C f ∧ fs.lookup f = some v ∧ Q v H1
/-- e.f = value -/
def sFld (K : PySem.W.Frag) (ta tv : TE) (f : Str) : TS := fun D σ H => tv σ H fun y H1 => ta σ H1 fun x H2 => ∃ a C dx fs, x = .ref a ∧ H2 a = some (.ins C dx fs) ∧ Cls K C ∧ NoAttr K C f ∧ fs.length < 1000 ∧
  D.nx σ (upd H2 a (.ins C dx (putF f y fs)))
section
variable {X : Cx} {o e value : Expr} {f : Str} {pos pos' tpos : Pos} {ta tv : TE}
theorem pe_fld (he : PE X e ta) (hb : attributeBase e f X.env (eval e X.env) = eval e X.env) : PE X (.Attribute e f pos) (tFld X.K ta f) := by
  intro pins s σ H Q I h
  refine attr_of hb (thn (he pins s σ H _ I h) fun u s1 ⟨x, H1, I1, rx, a, C, dx, fs, v, ex, ea, c, n, l, q⟩ => ?_)
  subst ex
  obtain rfl : u = Value.ref a := rx
  exact getattr_ok I1 ea c n l fun u' s2 I2 ru => ⟨v, H1, I2, ru, q⟩
theorem ps_fld (ha : PE X o ta) (hv : PE X value tv) (hs : swapsWith value (some (.Attribute o f pos')) pos.line X.env = pure false) : PS X (.Assign [.Attribute o f pos'] value pos) (sFld X.K ta tv f) := by
  intro pins s σ H D I h
  refine plainObj_wpAny_Assign_Attribute (thn (hv pins s σ H _ I h) fun u s1 ⟨y, H1, I1, ry, q⟩ => thn (ha pins s1 σ H1 _ I1 q) fun ov s2 ⟨x, H2, I2, rx, a, C, dx, fs, ex, ea, c, n, l, q2⟩ => ?_) hs
  subst ex
  obtain rfl : ov = Value.ref a := rx
  exact setattr_ok I2 ea c n l ry fun s3 I3 => ⟨σ, _, I3, q2⟩
end

/-! ### isinstance -/
section
variable {X : Cx} {pins : List (Addr × Obj)} {σ : St} {H : Hp} {s : Shared} {A : Around} {E : Value → Shared → Prop} {Q : Value → Shared → Prop} {c : Value} {b : Bool}
/-- the type of a value, as the fragment's deciders take it; for an instance its class -/
inductive TyOf (K : PySem.W.Frag) (H : Hp) : V → Value → Prop where
  | non : TyOf K H .non (.type "NoneType")
  | bl (x : Bool) : TyOf K H (.bl x) (.type "bool")
  | int (i : Int) : TyOf K H (.int i) (.type "int")
  | str (x : Str) : TyOf K H (.str x) (.type "str")
  | flt (x : UInt64) : TyOf K H (.flt x) (.type "float")
  | lst {a : Addr} {xs : List V} (e : H a = some (.lst xs)) : TyOf K H (.ref a) (.type "list")
  | frz {a : Addr} {o : Obj} {xs : List V} (e : H a = some (.frz o (.lst xs))) : TyOf K H (.ref a) (.type "list")
  | tup {a : Addr} {xs : List V} (e : H a = some (.tup xs)) : TyOf K H (.ref a) (.type "tuple")
  | dK {a : Addr} {kvs : List (Key × V)} (e : H a = some (.dK kvs)) : TyOf K H (.ref a) (.type "dict")
  | dT {a : Addr} {kvs : List (List Key × V)} (e : H a = some (.dT kvs)) : TyOf K H (.ref a) (.type "dict")
  | ins {a C dx : Addr} {fs : List (Str × V)} (e : H a = some (.ins C dx fs)) (cl : Cls K C) (ha : PySem.W.findIn K (.ref C) "__class__" = some (some (.builtin "object.__class__")))
      (hn : PySem.W.specialIn K (.builtin "object.__class__") "__get__" = some (some (.builtin "getset_descriptor.__get__"))) (htk : PySem.W.takesIn K (.builtin "object.__class__") = some true)
      (hm : PySem.W.mroIn K C (.type "object") = some true) : TyOf K H (.ref a) (.ref C)
/-- isinstance(x, c) for one class c, a built-in or an own one: kitOne's answer -/
theorem isinst_ok {x : V} {u t : Value} (I : Inv X pins σ H s) (rx : RelV x u) (ty : TyOf X.K H x t) (e : PySem.W.kitOne X.K t c = some b) (h : ∀ tk, Q (.bool b) { s with toks := tk }) :
    wpAny (model X.prog X.w) A (call (.builtin "isinstance") [u, c]) Q E s := by
  cases ty with
  | non => cases (show u = Value.none from rx); exact PySem.W.kia_one PySem.W.kitx_none I.kIn True.intro e (fun z => nomatch z) h
  | bl y => cases (show u = Value.bool y from rx); exact PySem.W.kia_one PySem.W.kitx_bool I.kIn True.intro e (fun z => nomatch z) h
  | int i => obtain ⟨t, q⟩ := (show ∃ t, u = Value.int i t from rx); cases q; exact PySem.W.kia_one PySem.W.kitx_int I.kIn True.intro e (fun z => nomatch z) h
  | str y => obtain ⟨t, q⟩ := (show ∃ t, u = Value.str y t from rx); cases q; exact PySem.W.kia_one PySem.W.kitx_str I.kIn True.intro e (fun z => nomatch z) h
  | flt y => obtain ⟨t, q⟩ := (show ∃ t, u = Value.float y t from rx); cases q; exact PySem.W.kia_one PySem.W.kitx_float I.kIn True.intro e (fun z => nomatch z) h
  | @lst a xs ea =>
    cases (show u = Value.ref a from rx)
    obtain ⟨_, _, n, _, h1⟩ := (show ObjOk X.prog X.w H s.heap a (.lst xs) from I.hok a _ ea)
    exact PySem.W.kia_one PySem.W.kitx_list I.kIn ⟨_, h1, rfl⟩ e (fun z => nomatch z) h
  | @frz a ob xs ea =>
    cases (show u = Value.ref a from rx)
    obtain ⟨_, _, _, n, _, h1⟩ := (show ObjOk X.prog X.w H s.heap a (.frz ob (.lst xs)) from I.hok a _ ea)
    exact PySem.W.kia_one PySem.W.kitx_list I.kIn ⟨_, h1, rfl⟩ e (fun z => nomatch z) h
  | @tup a xs ea =>
    cases (show u = Value.ref a from rx)
    obtain ⟨_, _, _, p⟩ := (show ObjOk X.prog X.w H s.heap a (.tup xs) from I.hok a _ ea)
    obtain ⟨o, h1, h2, _⟩ := p
    exact PySem.W.kia_one PySem.W.kitx_tuple I.kIn ⟨o, h1, h2⟩ e (fun z => nomatch z) h
  | @dK a kvs ea =>
    cases (show u = Value.ref a from rx)
    obtain ⟨_, _, vs, _, p⟩ := (show ObjOk X.prog X.w H s.heap a (.dK kvs) from I.hok a _ ea)
    obtain ⟨o, es, ep, h1, h2, _⟩ := p
    exact PySem.W.kia_one PySem.W.kitx_dict I.kIn ⟨o, h1, h2.1⟩ e (fun z => nomatch z) h
  | @dT a kvs ea =>
    cases (show u = Value.ref a from rx)
    obtain ⟨_, _, xs, _, o, es, ep, h1, h2, _⟩ := (show ObjOk X.prog X.w H s.heap a (.dT kvs) from I.hok a _ ea)
    exact PySem.W.kia_one PySem.W.kitx_dict I.kIn ⟨o, h1, h2.1⟩ e (fun z => nomatch z) h
  | @ins a C dx fs ea cl ha hn htk hm =>
    cases (show u = Value.ref a from rx)
    obtain ⟨mA, O, _⟩ := ins_get I.hok ea
    obtain ⟨od, J, _⟩ := O.look
    exact PySem.W.kia_one (PySem.W.kitx_own (cl.get _) cl.hd ha hn htk hm) I.kIn J e (fun z => nomatch z) h
end
end L2

namespace L2
open PySem PySem.Spec PyProof.Rows

/-! ### room -/
structure Room (k : Nat) (A : Around) : Prop where
  hd : A.handled = none
  dp : A.depth + 3 * k + 5 < recursionLimit
  un : A.units + 16 * k + 200 < cLine
theorem Room.mono {j k : Nat} {A : Around} (r : Room k A) (h : j ≤ k) : Room j A := ⟨r.hd, by have := r.dp; omega, by have := r.un; omega⟩
theorem Room.deeper {k : Nat} {A : Around} (r : Room (k + 1) A) (env : Env) : Room k (A.deeper env) :=
  ⟨r.hd, by have := r.dp; show A.depth + 1 + 3 * k + 5 < _; omega, by have := r.un; show A.units + 3 + 16 * k + 200 < _; omega⟩
theorem Room.in1 {k : Nat} {A : Around} (r : Room (k + 1) A) : Room k A.in1 :=
  ⟨r.hd, by have := r.dp; show A.depth + 3 * k + 5 < _; omega, by have := r.un; show A.units + 1 + 16 * k + 200 < _; omega⟩
theorem make_depth {A : Around} {C : Addr} {us : List Value} {kw : List (Str × Value)} : (A.under (.builtin "type.__call__" ⟨.ref C :: us, kw⟩)).depth = A.depth + 1 := by
  first | rfl | simp [Around.under, Code.weight, Code.isCreation, Code.isGuard, Code.isCaller, Code.frames, Code.isFrame, guardIds]
theorem make_units {A : Around} {C : Addr} {us : List Value} {kw : List (Str × Value)} : (A.under (.builtin "type.__call__" ⟨.ref C :: us, kw⟩)).units = A.units + 1 := by
  first | rfl | simp [Around.under, Code.cUnits, Code.frames, Code.isFrame]
theorem Room.make {k : Nat} {A : Around} (r : Room (k + 1) A) (C : Addr) (us : List Value) (kw : List (Str × Value)) : Room k (A.under (.builtin "type.__call__" ⟨.ref C :: us, kw⟩)) :=
  ⟨r.hd, by have := r.dp; rw [make_depth]; omega, by have := r.un; rw [make_units]; omega⟩
theorem Room.depth {k : Nat} {A : Around} (r : Room k A) : A.depth < recursionLimit := by have := r.dp; omega
theorem Room.units {k : Nat} {A : Around} (r : Room k A) : A.units + 64 < cLine := by have := r.un; omega
/-! ### argument lists and displays -/
def tNil : TA := fun _ H Q => Q [] H
def tCons (ta : TE) (tr : TA) : TA := fun σ H Q => ta σ H fun x H1 => tr σ H1 fun xs H2 => Q (x :: xs) H2
section
variable {X : Cx} {e : Expr} {es : List Expr} {te : TE} {t : TA} {pos : Pos}
theorem pa_nil : PA X [] tNil := fun _ _ _ _ H Q I h => Calls.spliced_nil ⟨[], H, I, .nil, h⟩
theorem pa_cons (ha : PE X e te) (hr : PA X es t) (hs : starEach (e :: es) X.env = (false, eval e X.env) :: starEach es X.env := by rfl) : PA X (e :: es) (tCons te t) := by
  intro pos pins s σ H Q I h
  rw [hs]
  show wpAny _ _ (spliced ((false, eval e X.env) :: backTo pos (starEach es X.env))) _ _ s
  refine Calls.spliced_cons (thn (ha pins s σ H _ I h) fun u s1 ⟨x, H1, I1, r1, q1⟩ => ?_)
  exact thn (hr pos pins s1 σ H1 _ I1 q1) fun us s2 ⟨xs, H2, I2, r2, q2⟩ => ⟨x :: xs, H2, I2, .cons r1 r2, q2⟩

/-- a tuple, a list of written items -/
def tTup (t : TA) : TE := fun σ H Q => t σ H fun xs H1 => xs.length ≤ sizeLine ∧ ∀ p, H1 p = none → Q (.ref p) (upd H1 p (.tup xs))
def tLst (t : TA) : TE := fun σ H Q => t σ H fun xs H1 => xs.length ≤ sizeLine ∧ ∀ p, H1 p = none → Q (.ref p) (upd H1 p (.lst xs))
theorem pe_tup {x1} (h : PA X es t) : PE X (.Tuple es x1 pos) (tTup t) := by
  intro pins s σ H Q I hq
  refine wpAny_Tuple_spliced (thn (h pos pins s σ H _ I hq) fun us s1 ⟨xs, H1, I1, r, z, q⟩ => ⟨by rw [← r.length]; exact z, ?_⟩)
  have hf : H1 s1.heap.objs.size = none := I1.hok.fresh (Nat.le_refl _)
  refine ⟨.ref s1.heap.objs.size, upd H1 s1.heap.objs.size (.tup xs), I1.laid (t' := s1.toks) (fun b u e => Heap.get?_push_of_some _ e) (Nat.le_refl _) ?_, rfl, q _ hf⟩
  exact ⟨z, us, r, ⟨_, Heap.get?_push_size _ rfl, rfl, _, rfl⟩⟩
theorem pe_lst (h : PA X es t) : PE X (.List es pos) (tLst t) := by
  intro pins s σ H Q I hq
  refine wpAny_List_spliced (thn (h pos pins s σ H _ I hq) fun us s1 ⟨xs, H1, I1, r, z, q⟩ => ⟨by rw [← r.length]; exact z, ?_⟩)
  have hf : H1 s1.heap.objs.size = none := I1.hok.fresh (Nat.le_refl _)
  refine ⟨.ref s1.heap.objs.size, upd H1 s1.heap.objs.size (.lst xs), I1.laid (t' := s1.toks) (fun b u e => Heap.get?_push_of_some _ e) (Nat.le_refl _) ?_, rfl, q _ hf⟩
  exact ⟨z, us, 0, r, Heap.get?_push_size _ rfl⟩
end

/-! ### what a def promises -/
/-- a def's promise: the bound arguments in the parameters' order, the heap, the wanted end, the wanted exception -/
abbrev Sp := List V → Hp → VK → XK → Prop
/-- how an exception lies behind a call (file 08 gives it): the callers' frames, abstract heap and state ahead of the call, the wish, the exception, the state -/
abbrev CXT := List Env → Hp → Shared → XK → Value → Shared → Prop

/-- the state at a call -/
structure Env0 (P : Program) (w : World) (K : PySem.W.Frag) (mg : Str → Option Value) (base : Heap) (A : Around) (outer : List Env) (s : Shared) (H : Hp) : Prop where
  frames : A.frames = some outer
  mod : Mod K mg base
  bs : ∀ b o, base.get? b = some o → s.heap.get? b = some o ∧ H b = none
  bsz : base.objs.size ≤ s.heap.objs.size
  funs : s.heap.FunFrames base outer
  frf : ∀ b ∈ frs outer, H b = none
  hok : HOk P w H s.heap
  bare : AllBare s.gens
/-- a call's end -/
def CE (outer : List Env) (P : Program) (w : World) (H : Hp) (s : Shared) (Q : VK) (u : Value) (s' : Shared) : Prop :=
  ∃ v H', s'.os = s.os ∧ AllBare s'.gens ∧ Un (frs outer) [] H H' s.heap s'.heap ∧ HOk P w H' s'.heap ∧ RelV v u ∧ Q v H'
def CR (CX : CXT) (outer : List Env) (P : Program) (w : World) (H : Hp) (s : Shared) (Q : VK) (E : XK) (r : Result) (s' : Shared) : Prop :=
  match r with
  | .ok (.ret u) => CE outer P w H s Q u s'
  | .ok _ => False
  | .error e => CX outer H s E e s'
structure FnOk (P : Program) (w : World) (K : PySem.W.Frag) (mg : Str → Option Value) (base : Heap) (CX : CXT) (k : Nat) (f : Addr) (fd : FuncData) (ps : List Str) (sp : Sp) : Prop where
  len : ∀ vs H Q E, sp vs H Q E → vs.length = ps.length
  run : ∀ (A : Around) (outer : List Env) (s : Shared) (H : Hp) (args : Args) (us : List Value) (vs : List V) (Q : VK) (E : XK), Room k A → Env0 P w K mg base A outer s H → BindsTo s fd args (ps.zip us) → Vals vs us → sp vs H Q E →
    codeAny (model P w) A (.call (.ref f) args) (CR CX outer P w H s Q E) s
theorem FnOk.mono {P : Program} {w : World} {K : PySem.W.Frag} {mg : Str → Option Value} {base : Heap} {CX : CXT} {j k : Nat} {f : Addr} {fd : FuncData} {ps : List Str} {sp : Sp} (F : FnOk P w K mg base CX j f fd ps sp) (h : j ≤ k) :
    FnOk P w K mg base CX k f fd ps sp := ⟨F.len, fun A outer s H args us vs Q E hr => F.run A outer s H args us vs Q E (hr.mono h)⟩
theorem Env0.make {P : Program} {w : World} {K : PySem.W.Frag} {mg : Str → Option Value} {base : Heap} {A : Around} {outer : List Env} {s : Shared} {H : Hp} (e : Env0 P w K mg base A outer s H) (C : Addr) (us : List Value) (kw : List (Str × Value)) :
    Env0 P w K mg base (A.under (.builtin "type.__call__" ⟨.ref C :: us, kw⟩)) outer s H := ⟨by first | exact e.frames | (simpa [Around.under, Code.envs, Code.isFrame, pushEnvs] using e.frames), e.mod, e.bs, e.bsz, e.funs, e.frf, e.hok, e.bare⟩
theorem Env0.in1 {P : Program} {w : World} {K : PySem.W.Frag} {mg : Str → Option Value} {base : Heap} {A : Around} {outer : List Env} {s : Shared} {H : Hp} (e : Env0 P w K mg base A outer s H) :
    Env0 P w K mg base A.in1 outer s H := ⟨e.frames, e.mod, e.bs, e.bsz, e.funs, e.frf, e.hok, e.bare⟩

section
variable {X : Cx} {pins : List (Addr × Obj)} {σ : St} {H : Hp} {s s' : Shared}
/-- from a body: what a callee wants -/
theorem Inv.env0 (I : Inv X pins σ H s) : Env0 X.prog X.w X.K X.mg X.base X.A X.stack s H :=
  ⟨I.ok.frames, I.ok.mod, I.bs, Nat.le_trans I.ok.bsz I.sz, I.stack, I.stkFree, I.hok, I.bare⟩
/-- behind a call -/
theorem Inv.after {Q : VK} {u : Value} (I : Inv X pins σ H s) (h : CE X.stack X.prog X.w H s Q u s') : EP X pins σ Q u s' := by
  obtain ⟨v, H', os, bare, un, hok, r, q⟩ := h
  obtain ⟨hh, g, d, t, os'⟩ := s'
  obtain rfl : os' = s.os := os
  exact ⟨v, H', I.call (h' := hh) (g' := g) (d' := d) (t' := t) (ch := []) un hok bare (fun b z => absurd z (by simp)), r, q⟩
end

/-! ### calls -/
/-- f(..): the written arguments, then the defaults dvs; E: what is wanted of an exception -/
def tCall (sp : Sp) (dvs : List V) (E : XK) (t : TA) : TE := fun σ H Q => t σ H fun vs H1 => sp (vs ++ dvs) H1 Q E
/-- o.m(..) of an instance of the class at C -/
def tMeth (C : Addr) (m : Str) (sp : Sp) (dvs : List V) (E : XK) (ta : TE) (t : TA) : TE := fun σ H Q => ta σ H fun x H1 => ∃ a dx fs, x = .ref a ∧ H1 a = some (.ins C dx fs) ∧ fs.lookup m = none ∧
  t σ H1 fun vs H2 => sp (x :: (vs ++ dvs)) H2 Q E
/-- C(..): a new instance and its dict, then __init__ -/
def tMake (C : Addr) (sp : Sp) (dvs : List V) (E : XK) (t : TA) : TE := fun σ H Q => t σ H fun vs H1 => ∀ x dx, H1 x = none → H1 dx = none → dx ≠ x →
  sp (.ref x :: (vs ++ dvs)) (upd (upd H1 dx (.own x)) x (.ins C dx [])) (fun v H2 => v = .non ∧ Q (.ref x) H2) E

/-- how the parameters are bound: us the positional arguments, kw the keywords' values by name, ds the defaults that fill up -/
def Binds (K : PySem.W.Frag) (fd : FuncData) (ps : List Str) (ds : List Value) : Prop :=
  ∀ (s : Shared) (us : List Value), K.In s.heap → (us ++ ds).length = ps.length → BindsTo s fd ⟨us, []⟩ (ps.zip (us ++ ds))
/-- every parameter is given -/
theorem Binds.all {K : PySem.W.Frag} {fd : FuncData} {ps : List Str} (h : ∀ us : List Value, us.length = ps.length → bindArgs fd ⟨us, []⟩ = pure (ps.zip us)) : Binds K fd ps [] := fun s us _ hl => by
  rw [List.append_nil] at hl ⊢
  exact .of_eq (h us hl)

/-- an exception of a callee reaches what this body wants of exceptions -/
def Passes (CX : CXT) (X : Cx) (E : XK) : Prop := ∀ (pins : List (Addr × Obj)) (σ : St) (H : Hp) (s : Shared) (e : Value) (s' : Shared), Inv X pins σ H s → CX X.stack H s E e s' → X.xe e s'

section
variable {X : Cx} {CX : CXT} {k : Nat} {f C : Addr} {fd : FuncData} {ps : List Str} {sp : Sp} {dvs : List V} {ds : List Value} {E : XK} {x m : Str} {p pos apos : Pos} {e o : Expr} {es : List Expr} {ta : TE} {t : TA}

/-- the callee runs -/
theorem run_fn {pins : List (Addr × Obj)} {σ : St} {H : Hp} {s : Shared} {Q : VK} {us : List Value} {vs : List V} (F : FnOk X.prog X.w X.K X.mg X.base CX k f fd ps sp) (hr : Room k X.A) (hb : Binds X.K fd ps ds) (hd : Vals dvs ds) (hx : Passes CX X E)
    (I : Inv X pins σ H s) (r : Vals vs us) (h : sp (vs ++ dvs) H Q E) : wpAny (model X.prog X.w) X.A (call (.ref f) us) (EP X pins σ Q) X.xe s := by
  have r2 : Vals (vs ++ dvs) (us ++ ds) := r.append hd
  have hl : (us ++ ds).length = ps.length := by rw [← r2.length]; exact F.len _ _ _ _ h
  refine wpAny_call (codeAny_mono (F.run X.A X.stack s H ⟨us, []⟩ (us ++ ds) (vs ++ dvs) Q E hr I.env0 (hb s us I.kIn hl) r2 h) fun r s' hq => ?_)
  cases r with
  | error e => exact hx pins σ H s e s' I hq
  | ok fl =>
    cases fl with
    | ret u => exact I.after hq
    | next => exact False.elim hq
    | brk => exact False.elim hq
    | cont => exact False.elim hq

theorem pe_call (F : FnOk X.prog X.w X.K X.mg X.base CX k f fd ps sp) (hr : Room k X.A) (hg : Gl X x) (hm : X.mg x = some (.ref f)) (hk : PySem.W.keepIn X.K (.ref f) = true) (hb : Binds X.K fd ps ds) (hd : Vals dvs ds) (hx : Passes CX X E)
    (ha : PA X (e :: es) t) (hdb : (x == ("__debug__" : Str)) = false := by decide) (he : starEach (e :: es) X.env = (false, eval e X.env) :: starEach es X.env := by rfl) (hpl : (backTo pos (starEach es X.env)).any (·.1) = false := by rfl) :
    PE X (.Call (.Name x p) (e :: es) [] pos) (tCall sp dvs E t) := by
  intro pins s σ H Q I h
  refine wpAny_Call_Name_kw (ld_glob I hg hm ?_ hdb)
  refine PySem.W.callWith_K (h₀ := X.base) I.ok.mod.kin hk (thn (ha pos pins s σ H _ I h) fun us s1 ⟨vs, H1, I1, r, q⟩ => ⟨I1.kIn, ?_⟩) he hpl
  exact run_fn F hr hb hd hx I1 r q
/-- o.m(e, ..) -/
theorem pe_meth {pl : Sem Bool} (he : PE X o ta) (c : Cls X.K C) (hm : Meth X.K C m f) (F : FnOk X.prog X.w X.K X.mg X.base CX k f fd ps sp) (hr : Room k X.A) (hb : Binds X.K fd ps ds) (hd : Vals dvs ds) (hx : Passes CX X E) (ha : PA X (e :: es) t)
    (hst : starEach (e :: es) X.env = (false, eval e X.env) :: starEach es X.env := by rfl) (hpl : (backTo pos (starEach es X.env)).any (·.1) = false := by rfl)
    (ht : eval (.Call (.Attribute o m apos) (e :: es) [] pos) X.env = (do
      let ov ← eval o X.env
      standAt apos.atName
      let (f, first) ← holding [ov] (getMethod ov m pl)
      callWith pos f first (backTo pos (starEach (e :: es) X.env)) (backToKw pos (keywordEach [] X.env))) := by rfl) :
    PE X (.Call (.Attribute o m apos) (e :: es) [] pos) (tMeth C m sp dvs E ta t) := by
  intro pins s σ H Q I h
  refine PySem.W.methodCall_KW (pl := pl) (thn (he pins s σ H _ I h) fun u s1 ⟨x, H1, I1, rx, a, dx, fs, ex, ea, l, q⟩ => ?_) ht
  subst ex
  obtain rfl : u = Value.ref a := rx
  refine getmeth_ok I1 ea c hm l ?_
  refine PySem.W.callWith_K (first := [.ref a]) (h₀ := X.base) I.ok.mod.kin hm.kp (thn (ha pos pins s1 σ H1 _ I1 q) fun us s2 ⟨vs, H2, I2, r, q2⟩ => ⟨I2.kIn, ?_⟩) hst hpl
  exact run_fn (us := .ref a :: us) (vs := .ref a :: vs) F hr hb hd hx I2 (.cons rfl r) q2
/-- o.m() -/
theorem pe_meth0 {pl : Sem Bool} (he : PE X o ta) (c : Cls X.K C) (hm : Meth X.K C m f) (F : FnOk X.prog X.w X.K X.mg X.base CX k f fd ps sp) (hr : Room k X.A) (hb : Binds X.K fd ps ds) (hd : Vals dvs ds) (hx : Passes CX X E)
    (ht : eval (.Call (.Attribute o m apos) [] [] pos) X.env = (do
      let ov ← eval o X.env
      standAt apos.atName
      let (f, first) ← holding [ov] (getMethod ov m pl)
      callWith pos f first (backTo pos (starEach [] X.env)) (backToKw pos (keywordEach [] X.env))) := by rfl) :
    PE X (.Call (.Attribute o m apos) [] [] pos) (tMeth C m sp dvs E ta tNil) := by
  intro pins s σ H Q I h
  refine PySem.W.methodCall_KW (pl := pl) (thn (he pins s σ H _ I h) fun u s1 ⟨x, H1, I1, rx, a, dx, fs, ex, ea, l, q⟩ => ?_) ht
  subst ex
  obtain rfl : u = Value.ref a := rx
  refine getmeth_ok I1 ea c hm l ?_
  exact PySem.W.callWith_K0 (first := [.ref a]) I1.kIn hm.kp (run_fn (us := [.ref a]) (vs := [.ref a]) F hr hb hd hx I1 (.cons rfl .nil) q)

/-- what a class must have to be made -/
structure Mk (K : PySem.W.Frag) (C f : Addr) : Prop where
  makes : PySem.W.makesIn K C = true
  init : PySem.W.findIn K (.ref C) "__init__" = some (some (.ref f))
  fn : PySem.W.isFn K (.ref f) = true
  kp : PySem.W.keepIn K (.ref C) = true

theorem run_make {pins : List (Addr × Obj)} {σ : St} {H : Hp} {s : Shared} {Q : VK} {us : List Value} {vs : List V} (M : Mk X.K C f) (F : FnOk X.prog X.w X.K X.mg X.base CX k f fd ps sp) (hr : Room (k + 1) X.A) (hb : Binds X.K fd ps ds) (hd : Vals dvs ds)
    (hx : Passes CX X E) (I : Inv X pins σ H s) (r : Vals vs us)
    (h : ∀ x dx, H x = none → H dx = none → dx ≠ x → sp (.ref x :: (vs ++ dvs)) (upd (upd H dx (.own x)) x (.ins C dx [])) (fun v H2 => v = .non ∧ Q (.ref x) H2) E) :
    wpAny (model X.prog X.w) X.A (call (.ref C) us) (EP X pins σ Q) X.xe s := by
  have hq := h (s.heap.objs.size + 1) s.heap.objs.size (I.hok.fresh (Nat.le_succ _)) (I.hok.fresh (Nat.le_refl _)) (Nat.ne_of_lt (Nat.lt_succ_self _))
  have I2 := Inv.made (C := C) I
  have r2 : Vals (V.ref (s.heap.objs.size + 1) :: (vs ++ dvs)) (Value.ref (s.heap.objs.size + 1) :: (us ++ ds)) := .cons rfl (r.append hd)
  have hl : (Value.ref (s.heap.objs.size + 1) :: us ++ ds).length = ps.length := by
    have e := r2.length
    rw [F.len _ _ _ _ hq] at e
    exact e.symm
  refine wpAny_call (make_map (f := f) I.kIn M.makes M.init (beq_iff_eq.mp M.fn) (codeAny_mono (F.run _ X.stack _ _ ⟨Value.ref (s.heap.objs.size + 1) :: us, []⟩ (Value.ref (s.heap.objs.size + 1) :: (us ++ ds)) _ _ E (hr.make C us [])
    (I2.env0.make C us []) (hb _ (Value.ref (s.heap.objs.size + 1) :: us) I2.kIn hl) r2 hq) fun r s' hq' => ?_))
  cases r with
  | error e => exact hx pins σ _ _ e s' I2 hq'
  | ok fl =>
    cases fl with
    | ret u =>
      obtain ⟨v, H', I3, rv, ev, q3⟩ := I2.after hq'
      subst ev
      exact ⟨rv, ⟨V.ref (s.heap.objs.size + 1), H', I3, rfl, q3⟩⟩
    | next => exact False.elim hq'
    | brk => exact False.elim hq'
    | cont => exact False.elim hq'
theorem pe_make (M : Mk X.K C f) (F : FnOk X.prog X.w X.K X.mg X.base CX k f fd ps sp) (hr : Room (k + 1) X.A) (hg : Gl X x) (hm : X.mg x = some (.ref C)) (hb : Binds X.K fd ps ds) (hd : Vals dvs ds) (hx : Passes CX X E)
    (ha : PA X (e :: es) t) (hdb : (x == ("__debug__" : Str)) = false := by decide) (he : starEach (e :: es) X.env = (false, eval e X.env) :: starEach es X.env := by rfl) (hpl : (backTo pos (starEach es X.env)).any (·.1) = false := by rfl) :
    PE X (.Call (.Name x p) (e :: es) [] pos) (tMake C sp dvs E t) := by
  intro pins s σ H Q I h
  refine wpAny_Call_Name_kw (ld_glob I hg hm ?_ hdb)
  refine PySem.W.callWith_K (h₀ := X.base) I.ok.mod.kin M.kp (thn (ha pos pins s σ H _ I h) fun us s1 ⟨vs, H1, I1, r, q⟩ => ⟨I1.kIn, ?_⟩) he hpl
  exact run_make M F hr hb hd hx I1 r q
theorem pe_make0 (M : Mk X.K C f) (F : FnOk X.prog X.w X.K X.mg X.base CX k f fd ps sp) (hr : Room (k + 1) X.A) (hg : Gl X x) (hm : X.mg x = some (.ref C)) (hb : Binds X.K fd ps ds) (hd : Vals dvs ds) (hx : Passes CX X E)
    (hdb : (x == ("__debug__" : Str)) = false := by decide) : PE X (.Call (.Name x p) [] [] pos) (tMake C sp dvs E tNil) := by
  intro pins s σ H Q I h
  refine wpAny_Call_Name_kw (ld_glob I hg hm ?_ hdb)
  exact PySem.W.callWith_K0 I.kIn M.kp (run_make (us := []) M F hr hb hd hx I .nil h)
end

/-! ### keywords -/
section
variable {X : Cx} {CX : CXT} {k : Nat} {f C : Addr} {fd : FuncData} {ps ks : List Str} {sp : Sp} {E : XK} {x m : Str} {p pos apos kpos : Pos} {e o : Expr} {es : List Expr} {kws : List Keyword} {te ta : TE} {t tk : TA} {nm : Option Str}
/-- how a call with keywords binds: g puts the positional values us and the keywords' values ws (names ks) in the parameters' order, defaults among them -/
structure KBinds (K : PySem.W.Frag) (fd : FuncData) (ps ks : List Str) (g : List Value → List Value → List Value) (gV : List V → List V → List V) : Prop where
  to : ∀ (s : Shared) (us ws : List Value), K.In s.heap → (g us ws).length = ps.length → BindsTo s fd ⟨us, ks.zip ws⟩ (ps.zip (g us ws))
  rel : ∀ {vs : List V} {us : List Value} {zs : List V} {ws : List Value}, Vals vs us → Vals zs ws → Vals (gV vs zs) (g us ws)
variable {g : List Value → List Value → List Value} {gV : List V → List V → List V}
end

/-! ### a def's body keeps its promise -/
/-- names: the parameters first -/
structure FnScope (N P : List Str) (sc : Scope) : Prop where
  kind : sc.kind = .function
  co : sc.isCoroutine = false
  gen : sc.isGenerator = false
  nd : N.Nodup
  pre : N.take P.length = P
  par : ∀ x ∈ P, sc.names.lookup x = some .local ∨ sc.names.lookup x = some .cell
  nofree : ∀ y ∈ sc.names, y.2 ≠ .free

theorem bindL_out {kindOf : Str → Option NameKind} {x : Str} : ∀ {binds : List (Str × Value)} {m : Str → Option Value}, (∀ v, (x, v) ∉ binds) → bindL kindOf binds m x = m x
  | [], _, _ => rfl
  | (n, v) :: r, m, h => by
    unfold bindL
    rw [bindL_out fun w hw => h w (List.mem_cons_of_mem _ hw)]
    split
    · have : x ≠ n := by rintro rfl; exact h v List.mem_cons_self
      simp [this]
    · rfl
theorem bindC_out {kindOf : Str → Option NameKind} {x : Str} : ∀ {binds : List (Str × Value)} {m : Str → Option Value}, (∀ v, (x, v) ∉ binds) → bindC kindOf binds m x = m x
  | [], _, _ => rfl
  | (n, v) :: r, m, h => by
    unfold bindC
    rw [bindC_out fun w hw => h w (List.mem_cons_of_mem _ hw)]
    split
    · rfl
    · have : x ≠ n := by rintro rfl; exact h v List.mem_cons_self
      simp [this]
theorem bindL_get {kindOf : Str → Option NameKind} {x : Str} {v : Value} : ∀ {P : List Str} {vs : List Value} {i : Nat} {m : Str → Option Value}, P.Nodup → P[i]? = some x → vs[i]? = some v → kindOf x = some .local →
    bindL kindOf (P.zip vs) m x = some v
  | [], _, _, _, _, h, _, _ => by simp at h
  | _ :: _, [], _, _, _, _, h, _ => by simp at h
  | p :: P, w :: vs, 0, m, nd, h1, h2, hk => by
    simp at h1 h2; subst h1; subst h2
    show bindL kindOf ((p, w) :: P.zip vs) m p = _
    unfold bindL
    rw [bindL_out fun v hv => (List.nodup_cons.mp nd).1 (List.of_mem_zip hv).1, if_pos hk]
    simp
  | p :: P, w :: vs, i + 1, m, nd, h1, h2, hk => by
    show bindL kindOf ((p, w) :: P.zip vs) m x = _
    unfold bindL
    exact bindL_get (i := i) (List.nodup_cons.mp nd).2 (by simpa using h1) (by simpa using h2) hk
theorem bindC_get {kindOf : Str → Option NameKind} {x : Str} {v : Value} : ∀ {P : List Str} {vs : List Value} {i : Nat} {m : Str → Option Value}, P.Nodup → P[i]? = some x → vs[i]? = some v → kindOf x ≠ some .local →
    bindC kindOf (P.zip vs) m x = some v
  | [], _, _, _, _, h, _, _ => by simp at h
  | _ :: _, [], _, _, _, _, h, _ => by simp at h
  | p :: P, w :: vs, 0, m, nd, h1, h2, hk => by
    simp at h1 h2; subst h1; subst h2
    show bindC kindOf ((p, w) :: P.zip vs) m p = _
    unfold bindC
    rw [bindC_out fun v hv => (List.nodup_cons.mp nd).1 (List.of_mem_zip hv).1, if_neg hk]
    simp
  | p :: P, w :: vs, i + 1, m, nd, h1, h2, hk => by
    show bindC kindOf ((p, w) :: P.zip vs) m x = _
    unfold bindC
    exact bindC_get (i := i) (List.nodup_cons.mp nd).2 (by simpa using h1) (by simpa using h2) hk

/-- the names' values at the entry -/
def start (N : List Str) (vs : List V) : St := vs.map some ++ List.replicate (N.length - vs.length) none

/-- the context of a def's body, at its entry; an exception leaves the frame, then lies as CX says -/
def cxOf (CX : CXT) (P : Program) (w : World) (K : PySem.W.Frag) (mg : Str → Option Value) (base : Heap) (N : List Str) (qual : Str) (scope : Scope) (f : Addr) (cd : Value) (A : Around) (outer : List Env) (s : Shared) (H : Hp) (E : XK) : Cx where
  prog := P
  w := w
  K := K
  mg := mg
  base := base
  A := A.deeper (envOfC qual scope s.heap.objs.size f cd)
  N := N
  s₀ := s
  H₀ := H
  env := envOfC qual scope s.heap.objs.size f cd
  outer := outer
  stack := envOfC qual scope s.heap.objs.size f cd :: outer
  ex := []
  calm := true
  fn := fun _ => true
  pn := []
  xe := fun e s' => wpAny (model P w) (A.deeper (envOfC qual scope s.heap.objs.size f cd)) (leaving (envOfC qual scope s.heap.objs.size f cd) e) (fun _ s'' => CX outer H s E e s'') (fun e' s'' => CX outer H s E e' s'') s'

theorem cell_has {sc : Scope} {n : Nat} {x : Str} (h : sc.names.lookup x = some .cell) : ∃ c, (cellsFrom n sc.names []).lookup x = some c := by
  have q := PySem.W.cellsFrom_some sc.names n [] (.inl h)
  exact Option.isSome_iff_exists.mp q

theorem inv_start {CX : CXT} {P : Program} {w : World} {K : PySem.W.Frag} {mg : Str → Option Value} {base : Heap} {N ps : List Str} {qual : Str} {scope : Scope} {f : Addr} {cd : Value} {A : Around} {outer : List Env} {s s1 : Shared} {H : Hp} {E : XK} {us : List Value} {vs : List V}
    (S : FnScope N ps scope) (hd : A.handled = none) (e0 : Env0 P w K mg base A outer s H) (hl : vs.length = ps.length) (r : Vals vs us)
    (x : InCallC s s.heap.objs.size (bindL (envOfC qual scope s.heap.objs.size f cd).kindOf (ps.zip us) fun _ => none) (cellsFrom (s.heap.objs.size + 1) scope.names []) (bindC (envOfC qual scope s.heap.objs.size f cd).kindOf (ps.zip us) fun _ => none) s1) :
    Inv (cxOf CX P w K mg base N qual scope f cd A outer s H E) [] (start N vs) H s1 := by
  have hpl : ps.length ≤ N.length := by have := congrArg List.length S.pre; rw [List.length_take] at this; omega
  obtain ⟨h1, tk, rfl, hk⟩ := x.done
  have noA : ∀ b : Addr, b ∉ (cxOf CX P w K mg base N qual scope f cd A outer s H E).ex := fun b z => absurd (show b ∈ ([] : List Addr) from z) (by simp)
  refine ⟨⟨e0.mod, S.kind, rfl, rfl, Nat.le_refl _, fun y z c h1 h2 => ?_, fun y hy => ?_, fun y c _ h => ?_, fun _ => hd, Around.frames_deeper e0.frames, .inr ⟨rfl, rfl⟩, fun b z => absurd z (noA b), e0.bs, e0.bsz, fun b _ _ => noA b, fun b z => absurd z (noA b), e0.funs, e0.frf⟩,
    rfl, e0.bare, Un.kept hk, ⟨_, x.toInCall.ns, fun i y v h1 h2 h3 => ?_⟩, fun y c h => ⟨_, x.cell y c h⟩, e0.hok.fresh (Nat.le_refl _), fun y c h => ?_, fun p hp => absurd (show p ∈ ([] : List (Addr × Obj)) from hp) (by simp), e0.hok.kept hk, ?_⟩
  · exact name_of_addr x.apart (PySem.mem_of_lookup h1) (PySem.mem_of_lookup h2)
  · have hy : scope.names.lookup y = some .cell ∨ scope.names.lookup y = some .free := hy
    rcases hy with hy | hy
    · exact cell_has hy
    · exact absurd rfl (S.nofree _ (PySem.mem_of_lookup hy))
  · exact Nat.le_of_lt (x.above y c (PySem.mem_of_lookup h))
  · have hi : i < vs.length := by
      unfold start at h2
      by_cases hi : i < vs.length
      · exact hi
      · rw [List.getElem?_append_right (by simpa using hi)] at h2
        rw [List.getElem?_replicate] at h2
        split at h2 <;> cases h2
    have ha : vs[i]? = some v := by
      unfold start at h2
      rw [List.getElem?_append_left (by simpa using hi), List.getElem?_map] at h2
      cases e : vs[i]? with
      | none => rw [e] at h2; cases h2
      | some a => rw [e] at h2; cases h2; rfl
    obtain ⟨u, hu, rv⟩ := r.get ha
    have hp : ps[i]? = some y := by
      rw [← S.pre, List.getElem?_take_of_lt (by omega)]; exact h1
    have ndP : ps.Nodup := by rw [← S.pre]; exact S.nd.sublist (List.take_sublist _ _)
    refine ⟨u, rv, ?_⟩
    rcases S.par y (List.mem_of_getElem? hp) with k | k
    · exact .inl ⟨k, bindL_get ndP hp hu k⟩
    · obtain ⟨c, e⟩ := cell_has (n := s.heap.objs.size + 1) k
      refine .inr ⟨.inl k, c, e, ?_⟩
      have q := x.cell y c e
      rw [bindC_get ndP hp hu (by show scope.names.lookup y ≠ _; rw [k]; decide)] at q
      exact q
  · exact e0.hok.fresh (Nat.le_of_lt (x.above y c (PySem.mem_of_lookup h)))
  · unfold start
    show _ = N.length
    rw [List.length_append, List.length_map, List.length_replicate]
    omega

/-- THE RULE: a def (or a method) of the text, by its body. The body's reading t is chosen for each entry; it is run at the parameters' values -/
theorem fn_of {CX : CXT} {P : Program} {w : World} {K : PySem.W.Frag} {mg : Str → Option Value} {base : Heap} {k : Nat} {f : Addr} {name qual : Str} {params : Arguments} {body : List Stmt} {scope : Scope} {dV kV doc pm cdv ct oc : Value} {an od : Option Addr}
    {osl : Array (Option Value)} {N ps : List Str} {sp : Sp} (lk : K.lookup f = some ⟨oc, od, .func (PySem.W.fnOf name qual params body scope dV kV doc pm an cdv ct), osl⟩) (hcd : PySem.W.codeIn K cdv qual = true) (S : FnScope N ps scope)
    (len : ∀ vs H Q E, sp vs H Q E → vs.length = ps.length)
    (hbody : ∀ (A : Around) (outer : List Env) (s : Shared) (H : Hp) (vs : List V) (Q : VK) (E : XK), Room k (A.deeper (envOfC qual scope s.heap.objs.size f cdv)) → sp vs H Q E →
      ∃ t, PSs (cxOf CX P w K mg base N qual scope f cdv A outer s H E) body t ∧ t { nx := fun _ H' => Q .non H', rt := Q } (start N vs) H) :
    FnOk P w K mg base CX (k + 1) f (PySem.W.fnOf name qual params body scope dV kV doc pm an cdv ct) ps sp := by
  refine ⟨len, fun A outer s H args us vs Q E hr e0 hb r hsp => ?_⟩
  have hl := len _ _ _ _ hsp
  have KX : K.In s.heap := e0.mod.kin.keeps fun b o e => (e0.bs b o e).1
  have lim : s.heap.NoLimit := e0.mod.nolimit.keeps fun b o e => (e0.bs b o e).1
  have hkind : ∀ y ∈ ps.zip us, scope.names.lookup y.1 = some .local ∨ (scope.names.lookup y.1 = some .cell ∧ ((cellsFrom (s.heap.objs.size + 1) scope.names []).lookup y.1).isSome = true) := fun ⟨n, v⟩ hy => by
    rcases S.par n (List.of_mem_zip hy).1 with q | q
    · exact .inl q
    · exact .inr ⟨q, PySem.W.cellsFrom_some _ _ _ (.inl q)⟩
  refine codeAny_call_function hr.depth (KX _ _ lk) rfl S.co S.gen rfl (PySem.W.codeRec_of KX hcd) (hb _ _ _ _ ?_)
  refine wpAny_newFunctionEnv_cells S.kind hkind fun env he s1 x => ?_
  subst he
  refine ⟨lim.keeps x.toInCall.keep, codeAny_func ?_⟩
  obtain ⟨t, ht, hq⟩ := hbody A outer s H vs Q E (hr.deeper _) hsp
  have I : Inv (cxOf CX P w K mg base N qual scope f cdv A outer s H E) [] (start N vs) H s1 := inv_start S hr.hd e0 hl r x
  refine wpAny_mono (ht [] s1 (start N vs) H _ I hq) (fun fl s' hs => ?_) fun e s' hs => hs
  have fin : ∀ {σ' : St} {H' : Hp} {v : V} {u : Value}, Inv (cxOf CX P w K mg base N qual scope f cdv A outer s H E) [] σ' H' s' → RelV v u → Q v H' → CE outer P w H s Q u s' :=
    fun {σ' H' v u} J rv q => ⟨v, H', J.os, J.bare, J.base, J.hok, rv, q⟩
  cases fl with
  | ret u =>
    obtain ⟨v, σ', H', J, rv, q⟩ := hs
    exact fin J rv q
  | next =>
    obtain ⟨σ', H', J, q⟩ := hs
    exact fin (v := V.non) (u := Value.none) J rfl q
  | brk =>
    obtain ⟨_, _, _, q⟩ := hs
    exact False.elim q
  | cont =>
    obtain ⟨_, _, _, q⟩ := hs
    exact False.elim q
end L2

namespace L2
open PySem PySem.Spec PyProof.Rows
section
variable {X : Cx} {x : Str} {p pos : Pos} {e : Expr} {es : List Expr} {t : TA} {id T : String} {r : List V → Hp → VK → Prop}

def tCB (r : List V → Hp → VK → Prop) (t : TA) : TE := fun σ H Q => t σ H fun vs H1 => r vs H1 Q
/-- f(e, ..), f a built-in function -/
theorem pe_callB (hc : CallR X (.builtin id) r) (hg : Gl X x) (hm : X.mg x = none) (hv : bootBuiltins x = some (.builtin id)) (ha : PA X (e :: es) t) (hn : x ≠ "__name__" := by decide) (hdb : (x == ("__debug__" : Str)) = false := by decide)
    (he : starEach (e :: es) X.env = (false, eval e X.env) :: starEach es X.env := by rfl) (hpl : (backTo pos (starEach es X.env)).any (·.1) = false := by rfl) : PE X (.Call (.Name x p) (e :: es) [] pos) (tCB r t) := by
  intro pins s σ H Q I h
  refine wpAny_Call_Name_kw (ld_blt I hg hm hv ?_ hn hdb)
  exact PyProof.Rows.callWith_builtin1 (thn (ha pos pins s σ H _ I h) fun us s1 ⟨vs, H1, I1, r1, q1⟩ => hc pins s1 σ H1 vs us Q I1 r1 q1) he hpl
/-- T(e, ..), T a built-in type -/
theorem pe_callTy (hc : CallR X (.type T) r) (hg : Gl X x) (hm : X.mg x = none) (hv : bootBuiltins x = some (.type T)) (ha : PA X (e :: es) t) (hn : x ≠ "__name__" := by decide) (hdb : (x == ("__debug__" : Str)) = false := by decide)
    (he : starEach (e :: es) X.env = (false, eval e X.env) :: starEach es X.env := by rfl) (hpl : (backTo pos (starEach es X.env)).any (·.1) = false := by rfl) : PE X (.Call (.Name x p) (e :: es) [] pos) (tCB r t) := by
  intro pins s σ H Q I h
  refine wpAny_Call_Name_kw (ld_blt I hg hm hv ?_ hn hdb)
  exact PyProof.Rows.callWith_type1 (thn (ha pos pins s σ H _ I h) fun us s1 ⟨vs, H1, I1, r1, q1⟩ => hc pins s1 σ H1 vs us Q I1 r1 q1) he hpl
end
end L2

namespace HT
open PySem PyProof.Rows

section
open PySem.SeqAt
open PySem.AutoSeq1 (wpAny_loadPart')
open PySem.MeetsSeq PySem.MeetsSeq2 PySem.MeetsSeq3

end

section
variable {prog : Program} {w : World} {A : Around} {E : Value → Shared → Prop} {s : Shared}

/-! ### t[a:b], not the whole -/
/-- a slice's bound as a place among n (d where it is left out) -/
def sIx (n d : Nat) : Option Int → Nat
  | none => d
  | some v => if v < 0 then (v + (n : Int)).toNat else min v.toNat n
theorem sIx_none (n d : Nat) : sIx n d none = d := rfl
theorem sIx_nat (n d k : Nat) : sIx n d (some (k : Int)) = min k n := by
  show (if (k : Int) < 0 then ((k : Int) + (n : Int)).toNat else min (k : Int).toNat n) = min k n
  rw [if_neg (by omega), Int.toNat_natCast]
end
end HT

namespace L2
open PySem PySem.Spec PyProof.Rows

/-! ### the parts of a slice -/
abbrev TO := St → Hp → (Option Int → Hp → Prop) → Prop
/-- a slice's part (left out, or an int) -/
def PO (X : Cx) (e : Option Expr) (t : TO) : Prop :=
  ∀ (pins : List (Addr × Obj)) (s : Shared) (σ : St) (H : Hp) (Q : Option Int → Hp → Prop), Inv X pins σ H s → t σ H Q →
    wpAny (model X.prog X.w) X.A (evalPart e X.env) (fun u s' => ∃ o H', Inv X pins σ H' s' ∧ IsPart u o ∧ Q o H') X.xe s
def tNoPart : TO := fun _ H Q => Q none H
def tPart (t : TE) : TO := fun σ H Q => t σ H fun x H1 => ∃ i, x = .int i ∧ Q (some i) H1

section
variable {X : Cx} {e : Expr} {te : TE} {lo hi : Option Expr} {tl th : TO} {pos p2 : Pos}

theorem po_none : PO X none tNoPart := by
  intro pins s σ H Q I h
  rw [evalPart_none]
  exact wpAny_pure ⟨none, H, I, .none, h⟩
theorem po_some (h : PE X e te) : PO X (some e) (tPart te) := by
  intro pins s σ H Q I hw
  rw [evalPart_some]
  refine thn (h pins s σ H _ I hw) fun u s1 ⟨x, H1, I1, r1, q1⟩ => ?_
  obtain ⟨i, rfl, q⟩ := q1
  obtain ⟨t, rfl⟩ := r1
  exact ⟨some i, H1, I1, .int i t, q⟩

/-- what a slice of a value is, by values: the slice object stands at sl -/
def SlR (X : Cx) (r : V → Option Int → Option Int → Hp → VK → Prop) : Prop :=
  ∀ (pins : List (Addr × Obj)) (s : Shared) (σ : St) (H : Hp) (x : V) (v vl vu : Value) (lo hi : Option Int) (sl : Addr) (Q : VK), Inv X pins σ H s → RelV x v → s.heap.IsSliceOf sl vl vu .none → IsPart vl lo → IsPart vu hi → r x lo hi H Q →
    ∃ T id, typeLookup (.type T) "__getitem__" = pure (some (.builtin id)) ∧ s.TypeIs v T ∧ wpAny (model X.prog X.w) X.A (getItem v (.ref sl)) (EP X pins σ Q) X.xe s
theorem SlR.or {r r' : V → Option Int → Option Int → Hp → VK → Prop} (h : SlR X r) (h' : SlR X r') : SlR X (fun x lo hi H Q => r x lo hi H Q ∨ r' x lo hi H Q) := by
  intro pins s σ H x v vl vu lo hi sl Q I rx hs pl pu q
  rcases q with q | q
  · exact h pins s σ H x v vl vu lo hi sl Q I rx hs pl pu q
  · exact h' pins s σ H x v vl vu lo hi sl Q I rx hs pl pu q
def tSl (r : V → Option Int → Option Int → Hp → VK → Prop) (te : TE) (tl th : TO) : TE := fun σ H Q => te σ H fun x H1 => tl σ H1 fun l H2 => th σ H2 fun u H3 => r x l u H3 Q
/-- a[lo:hi], any a -/
theorem pe_slice {r : V → Option Int → Option Int → Hp → VK → Prop} (hr : SlR X r) (he : PE X e te) (hl : PO X lo tl) (hu : PO X hi th) : PE X (.Subscript e (.Slice lo hi none p2) pos) (tSl r te tl th) := by
  intro pins s σ H Q I h
  refine Subscript_ (thn (he pins s σ H _ I h) fun v s1 ⟨x, H1, I1, r1, q1⟩ => ?_)
  refine wpAny_Slice (thn (hl pins s1 σ H1 _ I1 q1) fun vl s2 ⟨l, H2, I2, pl, q2⟩ => thn (hu pins s2 σ H2 _ I2 q2) fun vu s3 ⟨u, H3, I3, pu, q3⟩ => ?_)
  rw [evalPart_none]
  refine wpAny_pure ?_
  have I4 : Inv X pins σ H3 { s3 with heap := s3.heap.push { cls := .type "slice", data := .fields #[vl, vu, .none] } } := I3.kept (t' := s3.toks) fun b ob q => Heap.get?_push_of_some _ q
  obtain ⟨T, id, hT, ht, hg⟩ := hr pins { s3 with heap := s3.heap.push { cls := .type "slice", data := .fields #[vl, vu, .none] } } σ H3 x v vl vu l u s3.heap.objs.size Q I4 r1 (Heap.IsSliceOf.new ..) pl pu q3
  show wpAny (model X.prog X.w) X.A (subscriptTail e (.Slice lo hi none p2) v (.ref s3.heap.objs.size)) (EP X pins σ Q) X.xe { s3 with heap := s3.heap.push { cls := .type "slice", data := .fields #[vl, vu, .none] } }
  exact tail_any (ops := [.ref s3.heap.objs.size, v]) ht hT hg (by with_unfolding_all rfl)

/-- the items of xs[lo:hi] -/
def cutV (xs : List V) (lo hi : Option Int) : List V := (xs.drop (HT.sIx xs.length 0 lo)).take (HT.sIx xs.length xs.length hi - HT.sIx xs.length 0 lo)
theorem cutV_length (xs : List V) (lo hi : Option Int) : (cutV xs lo hi).length ≤ xs.length := by
  unfold cutV
  rw [List.length_take, List.length_drop]
  omega
/-! ### t < u, t + u -/
end
end L2

namespace L2
open PySem PySem.Spec PyProof.Rows

/-! ### places -/
/-- the place that an index of any sign means -/
def ixN (n : Nat) (i : Int) : Option Nat := if 0 ≤ i then (if i < n then some i.toNat else none) else if -(n : Int) ≤ i then some (i + n).toNat else none
def atI {α : Type} (xs : List α) (i : Int) : Option α := (ixN xs.length i).bind fun j => xs[j]?
theorem ixN_seq {n : Nat} {i : Int} {j : Nat} (h : ixN n i = some j) : seqIndex? i n = some j ∧ j < n ∧ -(n : Int) ≤ i ∧ i < n := by
  unfold ixN at h
  by_cases h0 : 0 ≤ i
  · rw [if_pos h0] at h
    by_cases h1 : i < n
    · rw [if_pos h1] at h
      have e : i.toNat = j := Option.some.inj h
      exact ⟨by rw [seqIndex_of h0 h1, e], by omega, by omega, h1⟩
    · rw [if_neg h1] at h; cases h
  · rw [if_neg h0] at h
    by_cases h1 : -(n : Int) ≤ i
    · rw [if_pos h1] at h
      have e : (i + n).toNat = j := Option.some.inj h
      exact ⟨by rw [seqIndex_neg (by omega) h1, e], by omega, h1, by omega⟩
    · rw [if_neg h1] at h; cases h
theorem atI_get {α : Type} {xs : List α} {i : Int} {v : α} (h : atI xs i = some v) : ∃ j, seqIndex? i xs.length = some j ∧ xs[j]? = some v ∧ j < xs.length ∧ -(xs.length : Int) ≤ i ∧ i < xs.length := by
  unfold atI at h
  cases e : ixN xs.length i with
  | none => rw [e] at h; cases h
  | some j =>
    rw [e] at h
    obtain ⟨h1, h2, h3, h4⟩ := ixN_seq e
    exact ⟨j, h1, h, h2, h3, h4⟩
theorem atI_nat {α : Type} {xs : List α} {j : Nat} {v : α} (h : xs[j]? = some v) : atI xs (j : Int) = some v := by
  have hj : j < xs.length := (List.getElem?_eq_some_iff.mp h).1
  have e : ixN xs.length (j : Int) = some j := by
    unfold ixN
    rw [if_pos (by omega), if_pos (by omega)]; simp
  unfold atI; rw [e]; exact h
/-! ### what may be subscripted -/
/-- what stands as an index of a plain subscript -/
def PlainIx (b : Expr) : Prop := ∀ o i, subscripted b false o i = operate [o, i] (getItem o i)
/-- a subscript by values -/
def IxR (X : Cx) (r : R2) : Prop :=
  ∀ (value slice : Expr) (pins : List (Addr × Obj)) (s : Shared) (σ : St) (H : Hp) (x y : V) (v u : Value) (Q : VK), Inv X pins σ H s → RelV x v → RelV y u → r x y H Q →
    subscripted slice false v u = operate [v, u] (getItem v u) → wpAny (model X.prog X.w) X.A (subscriptTail value slice v u) (EP X pins σ Q) X.xe s
/-- a call of a builtin's method by values: the receiver, the arguments -/
def MtR (X : Cx) (id : String) (r : V → List V → Hp → VK → Prop) : Prop :=
  ∀ (pins : List (Addr × Obj)) (s : Shared) (σ : St) (H : Hp) (x : V) (xs : List V) (v : Value) (us : List Value) (Q : VK), Inv X pins σ H s → RelV x v → Vals xs us → r x xs H Q →
    wpAny (model X.prog X.w) X.A (call (.builtin id) (v :: us)) (EP X pins σ Q) X.xe s
section
variable {X : Cx} {a b : Expr} {ta tb : TE} {pos : Pos}
theorem IxR.or {r r' : R2} (h : IxR X r) (h' : IxR X r') : IxR X (fun x y H Q => r x y H Q ∨ r' x y H Q) := by
  intro value slice pins s σ H x y v u Q I rx ry q hs
  rcases q with q | q
  · exact h value slice pins s σ H x y v u Q I rx ry q hs
  · exact h' value slice pins s σ H x y v u Q I rx ry q hs
theorem MtR.or {id : String} {r r' : V → List V → Hp → VK → Prop} (h : MtR X id r) (h' : MtR X id r') : MtR X id (fun x xs H Q => r x xs H Q ∨ r' x xs H Q) := by
  intro pins s σ H x xs v us Q I rx rs q
  rcases q with q | q
  · exact h pins s σ H x xs v us Q I rx rs q
  · exact h' pins s σ H x xs v us Q I rx rs q
/-- a[b] -/
theorem pe_ix {r : R2} (hr : IxR X r) (ha : PE X a ta) (hb : PE X b tb) (hs : PlainIx b) : PE X (.Subscript a b pos) (tOp r ta tb) := by
  intro pins s σ H Q I h
  exact Subscript_ (binT ha hb I h fun v u s2 x y H2 I2 rx ry q => hr a b pins s2 σ H2 x y v u Q I2 rx ry q (hs _ _))

def rIxL (K : PySem.W.Frag) : R2 := fun x y H Q => ∃ p xs i v, x = .ref p ∧ y = .int i ∧ SqL K H p xs ∧ atI xs i = some v ∧ Q v H
def rIxT (K : PySem.W.Frag) : R2 := fun x y H Q => ∃ p xs i v, x = .ref p ∧ y = .int i ∧ SqT K H p xs ∧ atI xs i = some v ∧ Q v H
theorem ix_list : IxR X (rIxL X.K) := by
  intro value slice pins s σ H x y v u Q I rx ry h hs
  obtain ⟨p, xs, i, z, rfl, rfl, hq, he, q⟩ := h
  cases rx
  obtain ⟨t, rfl⟩ := ry
  obtain ⟨its, r, pl, hz⟩ := I.list hq
  obtain ⟨j, h1, h2, h3, h4, h5⟩ := atI_get he
  obtain ⟨w, ew, rw'⟩ := r.get h2
  have hl := r.length
  have hn := line63
  have fin : EP X pins σ Q w s := ⟨z, H, I, rw', q⟩
  by_cases h0 : 0 ≤ i
  · have hj : i.toNat = j := by
      rw [seqIndex_of h0 h5] at h1
      exact Option.some.inj h1
    exact item_listR pl.isList h0 (by omega) (by rw [hj]; simpa using ew) fin hs
  · have hj : (i + (its.toArray.size : Int)).toNat = j := by
      rw [seqIndex_neg (by omega) h4] at h1
      rw [List.size_toArray, ← hl]
      exact Option.some.inj h1
    exact subscriptTail_builtinR (x := w) pl.isList.typeIs slot_list_getitem.lookup
      (wpAny_getItem_list_neg (Q := fun r s' => r = w ∧ EP X pins σ Q r s') pl.isList (by omega) (by rw [List.size_toArray] <;> omega) (by omega) (by rw [hj]; simpa using ew) ⟨rfl, fin⟩) hs
theorem ix_tup : IxR X (rIxT X.K) := by
  intro value slice pins s σ H x y v u Q I rx ry h hs
  obtain ⟨p, xs, i, z, rfl, rfl, hq, he, q⟩ := h
  cases rx
  obtain ⟨t, rfl⟩ := ry
  obtain ⟨its, r, pl, hz⟩ := I.tuple hq
  obtain ⟨j, h1, h2, h3, h4, h5⟩ := atI_get he
  obtain ⟨w, ew, rw'⟩ := r.get h2
  have hl := r.length
  have hn := line63
  have fin : EP X pins σ Q w s := ⟨z, H, I, rw', q⟩
  exact subscriptTail_builtinR (x := w) pl.typeIs slot_tuple_getitem.lookup
    (getItem_tuple (j := j) (Q := fun r s' => r = w ∧ EP X pins σ Q r s') pl (by omega) (by omega) (by rw [List.size_toArray, ← hl]; exact h1) (by simpa using ew) ⟨rfl, fin⟩) hs
/-! ### xs[i] = v, any sign -/
theorem Inv.lst {pins : List (Addr × Obj)} {σ : St} {H : Hp} {s : Shared} {p : Addr} {xs : List V} (I : Inv X pins σ H s) (h : H p = some (.lst xs)) :
    ∃ (its : List Value) (n : Nat), Vals xs its ∧ s.heap.get? p = some { cls := .type "list", data := .seq its.toArray n } ∧ xs.length ≤ sizeLine := by
  obtain ⟨z, its, n, r, e⟩ := I.hok p _ h
  exact ⟨its, n, r, e, z⟩
/-! ### slices -/
theorem slice_bounds (lo hi : Option Int) (n : Nat) : (sliceBounds lo hi none n).1 = ((HT.sIx n 0 lo : Nat) : Int) ∧ (sliceBounds lo hi none n).2.1 = ((HT.sIx n n hi : Nat) : Int) ∧ (sliceBounds lo hi none n).2.2 = 1 := by
  refine ⟨?_, ?_, rfl⟩
  · cases lo with
    | none => simp [sliceBounds, HT.sIx]
    | some i =>
      simp only [sliceBounds, HT.sIx, Option.getD_none, show (1 : Int) > 0 by decide, if_true]
      by_cases h : i < 0
      · simp only [h, if_true] <;> omega
      · simp only [h, if_false] <;> omega
  · cases hi with
    | none => simp [sliceBounds, HT.sIx]
    | some i =>
      simp only [sliceBounds, HT.sIx, Option.getD_none, show (1 : Int) > 0 by decide, if_true]
      by_cases h : i < 0
      · simp only [h, if_true] <;> omega
      · simp only [h, if_false] <;> omega
theorem slicePick_cut (its : List Value) (lo hi : Option Int) : slicePick its.toArray lo hi none = ((its.drop (HT.sIx its.length 0 lo)).take (HT.sIx its.length its.length hi - HT.sIx its.length 0 lo)).toArray := by
  obtain ⟨h1, h2, h3⟩ := slice_bounds lo hi its.toArray.size
  unfold slicePick
  rw [h1, h2, h3]
  simp only [sliceRange_one, pick_run, List.size_toArray] <;> rfl
/-- xs[lo:hi] of a list: a new list -/
def rSlL (K : PySem.W.Frag) : V → Option Int → Option Int → Hp → VK → Prop := fun x lo hi H Q => ∃ a xs, x = .ref a ∧ SqL K H a xs ∧ ∀ p, H p = none → Q (.ref p) (upd H p (.lst (cutV xs lo hi)))
theorem sl_list : SlR X (rSlL X.K) := by
  intro pins s σ H x v vl vu lo hi sl Q I rx hs pl pu h
  obtain ⟨a, xs, rfl, hx, q⟩ := h
  cases rx
  obtain ⟨its, r, ht, hz⟩ := I.list hx
  have hlen := r.length
  refine ⟨"list", _, slot_list_getitem.lookup, ht.isList.typeIs, ?_⟩
  refine wpAny_getItem_list_slice ht.isList hs pl pu .none (by simp) ?_ (by rw [List.size_toArray] <;> omega)
  rw [slicePick_cut, ← hlen]
  refine ⟨.ref s.heap.objs.size, _, I.laid (t' := s.toks) (o := .lst (cutV xs lo hi)) (fun b ob q => Heap.get?_push_of_some _ q) (Nat.le_refl _) ?_, rfl, q _ (I.hok.fresh (Nat.le_refl _))⟩
  exact ⟨Nat.le_trans (cutV_length xs lo hi) hz, _, 0, (r.drop (HT.sIx xs.length 0 lo)).take (HT.sIx xs.length xs.length hi - HT.sIx xs.length 0 lo), Heap.get?_push_size _ rfl⟩

/-! ### in, not in: flat items -/
/-! ### len, list(x), tuple(x) of any list or tuple that is read -/
theorem call_len_seq : CallR X (.builtin "len") (fun xs H Q => ∃ p ys, xs = [.ref p] ∧ (SqL X.K H p ys ∨ SqT X.K H p ys) ∧ Q (.int ys.length) H) := by
  intro pins s σ H xs us Q I r h
  obtain ⟨p, ys, rfl, hq, q⟩ := h
  obtain ⟨u, rfl, rx⟩ := vals1 r
  cases rx
  have hn := line63
  rcases hq with hq | hq
  · obtain ⟨its, r', pl, hz⟩ := I.list hq
    have hlen := r'.length
    exact Calls.call_len_list pl.isList (by simp only [List.size_toArray] <;> omega) ⟨.int ys.length, H, I.tok _, ⟨s.toks + 1, by rw [List.size_toArray, hlen]⟩, q⟩
  · obtain ⟨its, r', pl, hz⟩ := I.tuple hq
    have hlen := r'.length
    exact len_tuple pl (by simp only [List.size_toArray] <;> omega) ⟨.int ys.length, H, I.tok _, ⟨s.toks + 1, by rw [List.size_toArray, hlen]⟩, q⟩
theorem CallR.or {f : Value} {r r' : List V → Hp → VK → Prop} (h : CallR X f r) (h' : CallR X f r') : CallR X f (fun xs H Q => r xs H Q ∨ r' xs H Q) := by
  intro pins s σ H xs us Q I rs q
  rcases q with q | q
  · exact h pins s σ H xs us Q I rs q
  · exact h' pins s σ H xs us Q I rs q
theorem call_list_of : CallR X (.type "list") (fun xs H Q => ∃ p ys, xs = [.ref p] ∧ (SqL X.K H p ys ∨ SqT X.K H p ys) ∧ ∀ l, H l = none → Q (.ref l) (upd H l (.lst ys))) := by
  intro pins s σ H xs us Q I r h
  obtain ⟨p, ys, rfl, hq, q⟩ := h
  obtain ⟨u, rfl, rx⟩ := vals1 r
  cases rx
  have fin : ∀ (its : List Value), Vals ys its → ys.length ≤ sizeLine → ∀ (h' : Heap) (c' : Nat), (∀ b o', s.heap.get? b = some o' → h'.get? b = some o') →
      h'.get? s.heap.objs.size = some { cls := .type "list", dict := none, data := .seq its.toArray c', slots := #[] } → EP X pins σ Q (.ref s.heap.objs.size) { s with heap := h' } := fun its r' hz h' c' kp e =>
    ⟨.ref s.heap.objs.size, _, I.laid (t' := s.toks) kp (Nat.le_refl _) (show ObjOk X.prog X.w _ h' _ (.lst ys) from ⟨hz, its, c', r', e⟩), rfl, q _ (I.hok.fresh (Nat.le_refl _))⟩
  rcases hq with hq | hq
  · obtain ⟨its, r', pl, hz⟩ := I.list hq
    have hlen := r'.length
    obtain ⟨o, ho, hc, n, hd⟩ := pl.isList
    exact call_list_seq p (.inl rfl) ho hc hd (fun h' c' kp e => fin its r' hz h' c' kp e) (by simp only [List.size_toArray] <;> omega)
  · obtain ⟨its, r', pl, hz⟩ := I.tuple hq
    have hlen := r'.length
    obtain ⟨o, ho, hc, n, hd⟩ := pl
    exact call_list_seq p (.inr rfl) ho hc hd (fun h' c' kp e => fin its r' hz h' c' kp e) (by simp only [List.size_toArray] <;> omega)
theorem call_tuple_of : CallR X (.type "tuple") (fun xs H Q => ∃ p ys, xs = [.ref p] ∧ ((SqL X.K H p ys ∧ ∀ l, H l = none → Q (.ref l) (upd H l (.tup ys))) ∨ (SqT X.K H p ys ∧ Q (.ref p) H))) := by
  intro pins s σ H xs us Q I r h
  obtain ⟨p, ys, rfl, h⟩ := h
  obtain ⟨u, rfl, rx⟩ := vals1 r
  cases rx
  rcases h with ⟨hq, q⟩ | ⟨hq, q⟩
  · obtain ⟨its, r', pl, hz⟩ := I.list hq
    have hlen := r'.length
    refine call_tuple_list pl.isList (fun h' kp => ?_) (by simp only [List.size_toArray] <;> omega)
    have I1 : Inv X pins σ H { s with heap := h' } := I.kept (t' := s.toks) kp
    have I2 : Inv X pins σ (upd H h'.objs.size (.tup ys)) { s with heap := h'.push { cls := .type "tuple", data := .seq its.toArray } } :=
      I1.laid (t' := s.toks) (fun b o e => Heap.get?_push_of_some _ e) (Nat.le_refl _) (show ObjOk X.prog X.w _ _ _ (.tup ys) from ⟨hz, its, r', IsTup.new _ _⟩)
    exact ⟨.ref h'.objs.size, _, I2, rfl, q _ (I1.hok.fresh (Nat.le_refl _))⟩
  · obtain ⟨its, r', pl, hz⟩ := I.tuple hq
    exact call_tuple_same pl ⟨.ref p, H, I, rfl, q⟩

/-! ### the call of a builtin's method: o.m(..) -/
/-- the value is of that builtin type -/
def tyV (K : PySem.W.Frag) (T : String) (x : V) (H : Hp) : Prop := match x with
  | .str _ => T = "str"
  | .int _ => T = "int"
  | .ref p => (T = "list" ∧ ∃ xs, SqL K H p xs) ∨ (T = "tuple" ∧ ∃ o, K.lookup p = some o ∧ o.cls = .type "tuple" ∧ o.dict = none) ∨
      (T = "dict" ∧ ((∃ kvs, H p = some (.dK kvs)) ∨ ∃ kvs, H p = some (.dT kvs))) ∨ (T = "set" ∧ ∃ S n, H p = some (.set S n))
  | _ => False
theorem tyV_is {pins : List (Addr × Obj)} {σ : St} {H : Hp} {s : Shared} {T : String} {x : V} {v : Value} (I : Inv X pins σ H s) (r : RelV x v) (ty : tyV X.K T x H) :
    s.TypeIs v T ∧ ∀ a, v = .ref a → ∃ ob, s.heap.get? a = some ob ∧ ob.dict = none := by
  cases x with
  | str z =>
    obtain ⟨t, rfl⟩ := r
    cases (show T = "str" from ty)
    exact ⟨typeIs_str s z t, fun _ e => nomatch e⟩
  | int i =>
    obtain ⟨t, rfl⟩ := r
    cases (show T = "int" from ty)
    exact ⟨typeIs_int s i t, fun _ e => nomatch e⟩
  | ref p =>
    cases r
    rcases ty with ⟨rfl, xs, hq⟩ | ⟨rfl, o, hk, hc, hd⟩ | ⟨rfl, hk⟩ | ⟨rfl, S, n, hk⟩
    · obtain ⟨its, _, pl, _⟩ := I.list hq
      refine ⟨pl.isList.typeIs, fun a e => ?_⟩
      cases e
      obtain ⟨o, n, e, c, hd, _⟩ := pl
      exact ⟨o, e, hd⟩
    · refine ⟨⟨o, I.kIn p o hk, hc⟩, fun a e => ?_⟩
      cases e
      exact ⟨o, I.kIn _ o hk, hd⟩
    · have z : ∃ o, s.heap.get? p = some o ∧ o.ExactDict := by
        rcases hk with ⟨kvs, hk⟩ | ⟨kvs, hk⟩
        · obtain ⟨_, _, _, _, o, _, _, e, ex, _⟩ := I.hok p _ hk
          exact ⟨o, e, ex⟩
        · obtain ⟨_, _, _, _, o, _, _, e, ex, _⟩ := I.hok p _ hk
          exact ⟨o, e, ex⟩
      obtain ⟨o, e, ex⟩ := z
      refine ⟨⟨o, e, ex.1⟩, fun a e2 => ?_⟩
      cases e2
      exact ⟨o, e, ex.2.1⟩
    · obtain ⟨o, _, _, _, e, ex, _⟩ := I.hok p _ hk
      refine ⟨⟨o, e, ex.1⟩, fun a e2 => ?_⟩
      cases e2
      exact ⟨o, e, ex.2.1⟩
  | _ => exact False.elim ty
def tBM0 (K : PySem.W.Frag) (T : String) (r : V → List V → Hp → VK → Prop) (to : TE) : TE := fun σ H Q => to σ H fun x H1 => tyV K T x H1 ∧ r x [] H1 Q
def tBM (K : PySem.W.Frag) (T : String) (r : V → List V → Hp → VK → Prop) (to : TE) (t : TA) : TE := fun σ H Q => to σ H fun x H1 => tyV K T x H1 ∧ t σ H1 fun xs H2 => r x xs H2 Q
variable {o e : Expr} {es : List Expr} {to : TE} {t : TA} {name : Str} {apos cpos : Pos} {T id : String} {r : V → List V → Hp → VK → Prop}
theorem pe_bm0 (pa : PlainAttrs T) (slot : Slot T name id) (hty : typeOf (.builtin id) = pure (.type "method_descriptor")) (hm : MtR X id r) (ho : PE X o to)
    (hbase : attributeBase o name X.env (eval o X.env) = eval o X.env := by rfl) (hline : (apos.endLine == cpos.line) = true := by rfl) : PE X (.Call (.Attribute o name apos) [] [] cpos) (tBM0 X.K T r to) := by
  intro pins s σ H Q I h
  refine wpAny_Call_method0_late hbase hline (thn (ho pins s σ H _ I h) fun v s1 ⟨x, H1, I1, r1, ty, q1⟩ => ?_)
  obtain ⟨h1, h2⟩ := tyV_is I1 r1 ty
  exact ⟨T, id, pa, slot, hty, h1, h2, Calls.callWith_builtin rfl (PySem.evalArgs_none (hm pins s1 σ H1 x [] v [] Q I1 r1 .nil q1))⟩
theorem pe_bm (pa : PlainAttrs T) (slot : Slot T name id) (hty : typeOf (.builtin id) = pure (.type "method_descriptor")) (hm : MtR X id r) (ho : PE X o to) (ha : PA X (e :: es) t)
    (hbase : attributeBase o name X.env (eval o X.env) = eval o X.env := by rfl)
    (hfew : ((backTo cpos (starEach (e :: es) X.env)).all (fun x => !x.1) && (backToKw cpos (keywordEach [] X.env)).all (fun x => x.1.isSome)
      && decide ((e :: es).length + ([] : List Keyword).length + (if ([] : List Keyword).isEmpty then 0 else 1) < 30)) = true := by rfl)
    (hline : (apos.endLine == cpos.line) = true := by rfl) (hs : starEach (e :: es) X.env = (false, eval e X.env) :: starEach es X.env := by rfl) (hplain : (backTo cpos (starEach es X.env)).any (·.1) = false := by rfl) :
    PE X (.Call (.Attribute o name apos) (e :: es) [] cpos) (tBM X.K T r to t) := by
  intro pins s σ H Q I h
  refine wpAny_Call_method_late hbase hfew hline rfl (thn (ho pins s σ H _ I h) fun v s1 ⟨x, H1, I1, r1, ty, q1⟩ => ?_)
  obtain ⟨h1, h2⟩ := tyV_is I1 r1 ty
  refine ⟨T, id, pa, slot, hty, h1, h2, ?_⟩
  have hA := ha cpos pins s1 σ H1 _ I1 q1
  rw [hs] at hA ⊢
  refine Calls.callWith_builtin (by show (false || (backTo cpos (starEach es X.env)).any (·.1)) = false; rw [hplain] <;> rfl) (Calls.evalArgs_plain ?_)
  exact thn hA fun us s2 ⟨vs, H2, I2, r2, q2⟩ => hm pins s2 σ H2 x vs v us Q I2 r1 r2 q2
/- xs.append(e), list.index on a module's tuple .. are MtR facts of 06m -/
end
end L2

namespace L2
open PySem PySem.Spec PyProof.Rows

def MtM (X : Cx) (id : String) (r : V → List V → Hp → VK → Prop) : Prop :=
  ∀ (pins : List (Addr × Obj)) (s : Shared) (σ : St) (H : Hp) (x : V) (xs : List V) (v : Value) (us : List Value) (Q : VK), Inv X pins σ H s → RelV x v → Vals xs us → r x xs H Q →
    wpAny (model X.prog X.w) X.A (call (.builtin id) (v :: us)) (EP X pins σ Q) X.xe s

/-! ### lists of values -/
theorem Vals.one : ∀ {x : V} {us : List Value}, Vals [x] us → ∃ u, us = [u] ∧ RelV x u
  | _, _, .cons r .nil => ⟨_, rfl, r⟩
theorem Vals.two : ∀ {x y : V} {us : List Value}, Vals [x, y] us → ∃ u v, us = [u, v] ∧ RelV x u ∧ RelV y v
  | _, _, _, .cons r (.cons q .nil) => ⟨_, _, rfl, r, q⟩
theorem Vals.zero : ∀ {us : List Value}, Vals [] us → us = []
  | _, .nil => rfl
theorem Vals.rep {xs : List V} {us : List Value} (h : Vals xs us) : ∀ k : Nat, Vals (List.replicate k xs).flatten (List.replicate k us).flatten
  | 0 => .nil
  | k + 1 => by
    rw [List.replicate_succ, List.replicate_succ, List.flatten_cons, List.flatten_cons]
    exact Vals.append h (Vals.rep h k)
theorem foldl_rep (its : List Value) : ∀ (k : Nat) (acc : List Value),
    List.foldl (fun x1 x2 => x1 ++ x2) acc.toArray (List.replicate k its.toArray) = (acc ++ (List.replicate k its).flatten).toArray
  | 0, acc => by simp
  | k + 1, acc => by
    have e : acc.toArray ++ its.toArray = (acc ++ its).toArray := by simp
    have e2 : (acc ++ its) ++ (List.replicate k its).flatten = acc ++ (List.replicate (k + 1) its).flatten := by
      rw [List.replicate_succ, List.flatten_cons, List.append_assoc]
    rw [← e2, ← foldl_rep its k (acc ++ its), ← e, List.replicate_succ, List.foldl_cons]

section
variable {X : Cx} {pins : List (Addr × Obj)} {σ : St} {H : Hp} {s : Shared} {l b : Addr} {xs ys zs : List V}

/-! ### the two steps: a tracked list is rewritten, a new list is laid -/
theorem Inv.lset {its its' : List Value} {n : Nat} {f : Array Value → Array Value} {t' : Nat} (I : Inv X pins σ H s) (hH : H l = some (.lst xs))
    (e : s.heap.get? l = some { cls := .type "list", data := .seq its.toArray n }) (hf : f its.toArray = its'.toArray) (hv : Vals ys its') (hz : ys.length ≤ sizeLine) :
    Inv X pins σ (upd H l (.lst ys)) { s with heap := s.heap.update l (Obj.mapSeq f), toks := t' } := by
  have q := PySem.IsL.update e f
  rw [hf] at q
  refine I.write (x := l) (e := l) (by rw [hH]; exact trivial) (.inl rfl) (fun b' u hb hu => (Heap.get?_update_other s.heap (Obj.mapSeq f) (Ne.symm hb)).trans hu) ⟨_, q⟩ ?_
  exact ⟨hz, its', _, hv, q⟩
theorem Inv.lnew {its : List Value} {t' : Nat} (I : Inv X pins σ H s) (hv : Vals ys its) (hz : ys.length ≤ sizeLine) :
    Inv X pins σ (upd H s.heap.objs.size (.lst ys)) { s with heap := s.heap.push { cls := .type "list", data := .seq its.toArray }, toks := t' } :=
  I.laid (fun _ _ q => Heap.get?_push_of_some _ q) (Nat.le_refl _) ⟨hz, its, 0, hv, Heap.get?_push_size _ rfl⟩
theorem Inv.fresh (I : Inv X pins σ H s) : H s.heap.objs.size = none := I.hok.fresh (Nat.le_refl _)
theorem Inv.lstM (I : Inv X pins σ H s) (hH : H l = some (.lst xs)) : xs.length ≤ sizeLine ∧ ∃ (its : List Value) (n : Nat), Vals xs its ∧ xs.length = its.length ∧ s.heap.get? l = some { cls := .type "list", data := .seq its.toArray n } := by
  obtain ⟨z, its, n, r, e⟩ := I.hok l _ hH
  exact ⟨z, its, n, r, r.length, e⟩

theorem notLongL {n : Nat} (h : n ≤ sizeLine) : Builtin.List.listTooLong n = false := by
  unfold Builtin.List.listTooLong
  exact decide_eq_false (by omega)
end

section
variable {X : Cx}

/-! ### methods -/
def rAppend : V → List V → Hp → VK → Prop := fun x vs H Q => ∃ l xs y, x = .ref l ∧ vs = [y] ∧ H l = some (.lst xs) ∧ xs.length < sizeLine ∧ Q .non (upd H l (.lst (xs ++ [y])))
theorem mt_append : MtM X "list.append" rAppend := by
  intro pins s σ H x vs v us Q I rx rv h
  obtain ⟨l, xs, y, rfl, rfl, hH, hz, q⟩ := h
  cases rx
  obtain ⟨u, rfl, ru⟩ := rv.one
  obtain ⟨z, its, n, r, hl, e⟩ := I.lstM hH
  refine call_meets F.slot_list_append ⟨_, e, rfl⟩ F.entry_list_append (F.args_list_append_2 _ _) (PySem.list_append l its.toArray n u (by rw [List.size_toArray]; omega)) ⟨e, ?_⟩
  refine ⟨.non, _, I.lset (its' := its ++ [u]) hH e (by simp) (r.append (.cons ru .nil)) ?_, rfl, q⟩
  rw [List.length_append, List.length_singleton]
  omega

def rExtend : V → List V → Hp → VK → Prop := fun x vs H Q => ∃ l b xs zs, x = .ref l ∧ vs = [.ref b] ∧ H l = some (.lst xs) ∧ H b = some (.lst zs) ∧ xs.length + zs.length ≤ sizeLine ∧ Q .non (upd H l (.lst (xs ++ zs)))
theorem mt_extend : MtM X "list.extend" rExtend := by
  intro pins s σ H x vs v us Q I rx rv h
  obtain ⟨l, b, xs, zs, rfl, rfl, hH, hB, hz, q⟩ := h
  cases rx
  obtain ⟨u, rfl, ru⟩ := rv.one
  cases ru
  obtain ⟨z, its, n, r, hl, e⟩ := I.lstM hH
  obtain ⟨z2, its2, n2, r2, hl2, e2⟩ := I.lstM hB
  have hsz : its.toArray.size + its2.toArray.size ≤ sizeLine := by rw [List.size_toArray, List.size_toArray]; omega
  have hlong : ¬ (!its.toArray.isEmpty && Builtin.List.listTooLong (its.toArray.size + its2.toArray.size)) = true := by
    rw [notLongL hsz, Bool.and_false]
    exact Bool.false_ne_true
  refine call_meets F.slot_list_extend ⟨_, e, rfl⟩ F.entry_list_extend (F.args_list_extend_2 _ _)
    (AutoSeq1.list_extend_list_list_0 l its.toArray n b its2.toArray n2 hlong (by rw [List.size_toArray]; omega) (by omega)) ⟨e, e2, ?_⟩
  refine ⟨.non, _, I.lset (its' := its ++ its2) hH e (by simp) (r.append r2) ?_, rfl, q⟩
  rw [List.length_append]
  omega

def rClear : V → List V → Hp → VK → Prop := fun x vs H Q => ∃ l xs, x = .ref l ∧ vs = [] ∧ H l = some (.lst xs) ∧ Q .non (upd H l (.lst []))
theorem mt_clear : MtM X "list.clear" rClear := by
  intro pins s σ H x vs v us Q I rx rv h
  obtain ⟨l, xs, rfl, rfl, hH, q⟩ := h
  cases rx
  have hus := rv.zero
  subst hus
  obtain ⟨z, its, n, r, hl, e⟩ := I.lstM hH
  refine call_meets F.slot_list_clear ⟨_, e, rfl⟩ F.entry_list_clear (F.args_list_clear_1 _) (AutoSeq1.list_clear_list_0 l its.toArray n (by rw [List.size_toArray]; omega)) ⟨e, ?_⟩
  exact ⟨.non, _, I.lset (its' := []) (ys := []) hH e rfl .nil (Nat.zero_le _), rfl, q⟩

/-! ### list + list, list += list, list * int -/
def rCat : R2 := fun x y H Q => ∃ l b xs zs, x = .ref l ∧ y = .ref b ∧ H l = some (.lst xs) ∧ H b = some (.lst zs) ∧ xs.length + zs.length ≤ sizeLine ∧ ∀ p, H p = none → Q (.ref p) (upd H p (.lst (xs ++ zs)))
theorem op_cat : OpR X (binaryOp .Add) rCat := by
  intro pins s σ H x y v u Q I rx ry h
  obtain ⟨l, b, xs, zs, rfl, rfl, hH, hB, hz, q⟩ := h
  cases rx
  cases ry
  obtain ⟨z, its, n, r, hl, e⟩ := I.lstM hH
  obtain ⟨z2, its2, n2, r2, hl2, e2⟩ := I.lstM hB
  refine PySem.P.add_list e e2 ?_ (by rw [List.size_toArray, List.size_toArray]; omega)
  have ea : its.toArray ++ its2.toArray = (its ++ its2).toArray := by simp
  rw [ea]
  exact ⟨.ref _, _, I.lnew (t' := s.toks) (r.append r2) (by rw [List.length_append]; omega), rfl, q _ I.fresh⟩
/-- a list times an int (a negative one is nothing) -/
def rRep : R2 := fun x y H Q => ∃ l k xs, x = .ref l ∧ y = .int k ∧ H l = some (.lst xs) ∧ -(2 ^ 63) ≤ k ∧ k < 2 ^ 63 ∧ xs.length * k.toNat ≤ sizeLine ∧
  ∀ p, H p = none → Q (.ref p) (upd H p (.lst (List.replicate k.toNat xs).flatten))
theorem len_rep {α : Type} (xs : List α) (k : Nat) : (List.replicate k xs).flatten.length = k * xs.length := by
  induction k with
  | zero => simp
  | succ k ih => rw [List.replicate_succ, List.flatten_cons, List.length_append, ih, Nat.succ_mul, Nat.add_comm]
theorem op_rep : OpR X (binaryOp .Mult) rRep := by
  intro pins s σ H x y v u Q I rx ry h
  obtain ⟨l, k, xs, rfl, rfl, hH, h1, h2, hz, q⟩ := h
  cases rx
  obtain ⟨t, rfl⟩ := ry
  obtain ⟨z, its, n, r, hl, e⟩ := I.lstM hH
  have hlen : its.toArray.size * k.toNat ≤ sizeLine := by rw [List.size_toArray, ← hl]; exact hz
  have hcap : ¬ its.toArray.size * k.toNat > (2 ^ 63 - 1) / 8 := by
    have : (sizeLine : Nat) ≤ (2 ^ 63 - 1) / 8 := by decide
    omega
  have hfit : ¬ (!Builtin.List.listFitsIndex k) = true := by
    rw [fitsIndex_both h1 h2]
    exact Bool.false_ne_true
  have hlong : ¬ Builtin.List.listTooLong (its.toArray.size * k.toNat) = true := by
    rw [notLongL hlen]
    exact Bool.false_ne_true
  have hnew : List.foldl (fun x1 x2 => x1 ++ x2) #[] (List.replicate (if its.toArray.isEmpty = true then 0 else k.toNat) its.toArray) = (List.replicate k.toNat its).flatten.toArray := by
    have f0 : ∀ m : Nat, List.foldl (fun x1 x2 => x1 ++ x2) #[] (List.replicate m its.toArray) = (List.replicate m its).flatten.toArray := fun m => by
      have := foldl_rep its m []
      rw [List.nil_append] at this
      exact this
    rw [f0]
    cases its with
    | nil => simp
    | cons a r' => rw [if_neg (by simp)]
  refine wpAny_binaryOp_repeat_ref (T := "list") (U := "int") (by decide) ⟨_, e, rfl⟩ (fun s' => typeIs_int s' k t) noFill_list_mul F.fills_int_mul F.slot_int_rmul repeat_list F.slot_int_index.lookup
    (call_meets F.slot_int_rmul (typeIs_int s k t) F.entry_int_rmul (F.args_int_rmul_2 _ _) (int___rmul___int_list k t l its.toArray n)
      ⟨e, rfl, ⟨_, e, rfl⟩, call_meets F.slot_list_mul ⟨_, e, rfl⟩ F.entry_list_mul (F.args_list_mul_2 _ _) (AutoListH.list___mul___list_int_3 l its.toArray n k t hfit hcap hlong) ⟨e, ?_⟩⟩)
  rw [hnew]
  exact ⟨.ref _, _, I.lnew (t' := s.toks) (r.rep k.toNat) (by rw [len_rep, Nat.mul_comm]; exact hz), rfl, q _ I.fresh⟩

/-! ### del xs[i] -/
end

/-! ### xs[a:b] = ys -/
section
variable {prog : Program} {w : World} {A : Around} {E : Value → Shared → Prop} {s : Shared}
end

section
variable {X : Cx}
end
end L2

namespace Att
open PySem PySem.W PySem.Calls PyProof.Rows

/-! ### the script -/
theorem ints_of_wellAll {P : Params} {h : Heap} : ∀ (ns : List Int) (vs : List Value), WellAll P h vs (ns.map WData.int) → IntsAre vs ns := by
  intro ns
  induction ns with
  | nil =>
    intro vs w
    rw [List.map_nil] at w
    cases w
    exact .nil
  | cons n ns ih =>
    intro vs w
    rw [List.map_cons] at w
    cases w with
    | cons a b =>
      cases a
      exact .cons _ _ (ih _ b)

theorem script_of {l : OpenLaw} {n : Nat} (hn : l.most = some n) {P : Params} {h : Heap} {args : List WData} {vals : List Value}
    (hpre : l.row.toRowW.claim.pre args = true) (hwl : WellAll P h vals args) :
    ∃ a vs ns, vals = [Value.ref a] ∧ args = [WData.list (ns.map WData.int)] ∧ h.get? a = some { cls := .type "list", data := .seq vs.toArray } ∧ IntsAre vs ns ∧ ns.length ≤ n := by
  have hsh : WShape.hasAll [] args [.list .int] = true := (pre_splitW hpre).1
  have hc : l.pre.holds [] { args := args } = true := (pre_splitW hpre).2
  obtain ⟨d, r, rfl, h1, h2⟩ := hasAllW_cons hsh
  obtain rfl := hasAllW_nil h2
  obtain ⟨xs, rfl, h3⟩ := hasW_list h1
  obtain ⟨ns, rfl⟩ := items_int h3
  have hlen : ns.length ≤ n := by
    unfold OpenLaw.pre at hc
    have h4 : (WTm.not (.lt (.lit (.int (n : Int))) (.len (.arg 0)))).holds [] { args := [.list (ns.map .int)] } = true := by
      have h4 := (holds_andW hc).1
      rw [hn] at h4
      exact h4
    have h5 := condW_of h4 (w_not (w_lt w_lit (w_len_list (w_arg rfl))))
    rw [List.length_map] at h5
    refine Nat.le_of_not_lt fun q => ?_
    have q' : (n : Int) < ((ns.length : Nat) : Int) := by omega
    first
      | (rw [decide_eq_true q'] at h5; exact absurd h5 (by decide))
      | (simp at h5; omega)
  cases hwl with
  | cons w1 w2 =>
    cases w2
    cases w1 with
    | list ho hall => exact ⟨_, _, ns, rfl, rfl, ho, ints_of_wellAll ns _ hall, hlen⟩

theorem post_true (l : OpenLaw) (args : List WData) : l.row.toRowW.claim.post args (.bool true) args = true :=
  postW_of (r := l.row.toRowW) (X := (true == true))
    (show WShape.has [] (.bool true) .bool = true by first | rfl | decide | simp [WShape.has, WShape.arms, WShape.armsAll])
    (show (WTm.eq .res (.lit (.bool true))).value [] { args := args, res := some (.bool true), after := args } = some (.bool (true == true)) from w_eq_bool (w_res rfl) w_lit) rfl

/-! ### the attachment: holds_open's last premise (the goal 'hc' behind k_head) from a wpAny of the law's body -/
/-- the same from a codeAny of the CALL (for a layer whose function contracts speak of calls) -/
theorem attach_call {l : OpenLaw} {n : Nat} {q : Program} {loose : List Str} {XP : (Str → Option Value) → Heap → Prop} {YP : World → Heap → Prop} {d : DefRec}
    (hn : l.most = some n) (hdf : d.params.defaults = [])
    (call : ∀ (w : World) (s₀ s₁ : Shared) (mg mb : Str → Option Value) (fa : Addr) (o : Obj) (pm cd doc : Value) (a : Addr) (vs : List Value) (ns : List Int),
      Ground q loose [] XP w s₀ mg mb s₁.heap → YP w s₁.heap →
      s₁.heap.get? fa = some o → o.data = .func (docDef d.name d.params d.body d.scope pm cd doc) → s₁.heap.CodeRec cd d.name → mg d.name = some (.ref fa) →
      s₁.heap.get? a = some { cls := .type "list", data := .seq vs.toArray } → IntsAre vs ns → ns.length ≤ n → s₁.gens = #[] →
      codeAny (model l.prog w) callerA (.call (.ref fa) ⟨[.ref a], []⟩) (fun r s' => r = .ok (.ret (.bool true)) ∧ OldK s₁.heap s'.heap ∧ s'.os = s₁.os ∧ AllBare s'.gens) s₁) :
    WalkO q loose XP YP l.row.toRowW d [] (fun f vs => PySem.call f vs) := by
  intro w s₀ s₁ mg mb G Y fa o pm cd doc dV kV ho hd hcd hD hmg hg args vals as hpre hlay hrd hwl hlo
  obtain rfl : dV = .none := Dflts.none hD hdf
  obtain rfl : kV = .none := Dflts.noKw hD
  obtain ⟨a, vs, ns, rfl, rfl, hobj, hints, hlen⟩ := script_of hn hpre hwl
  refine enter_call (codeAny_mono (call w s₀ s₁ mg mb fa o pm cd doc a vs ns G Y ho (fd_plain hd) hcd hmg hobj hints hlen hg) fun r s' hq => ?_)
  obtain ⟨rfl, h2, h3, h4⟩ := hq
  exact ⟨.inl ⟨.bool true, .bool true, [], rfl, fun _ => rfl, .bool true, post_true l _, fun _ => ⟨List.Pairwise.nil, fun _ hm => (nomatch hm)⟩⟩, h2, h3, h4⟩

/-! ### rules over ANY heap (no ledger) from facts about the written part K: the library's own take a ledger (News) for what they write -/
section
variable {prog : Program} {w : World} {A : Around} {E : Value → Shared → Prop} {s : Shared} {K : Frag}

/-! the whole heap as the ledger: makes every rule that writes through a ledger a rule over any heap -/
def ledger (h : Heap) (L d : Addr) : List (Addr × Obj) := (List.range h.objs.size).filterMap fun a => if a = L ∨ a = d then none else (h.get? a).map fun o => (a, o)
end
end Att

namespace L2
open PySem PySem.Spec PyProof.Rows

theorem vals_ints : ∀ {vs : List Value} {ns : List Int}, IntsAre vs ns → Vals (ns.map V.int) vs
  | _, _, .nil => .nil
  | _, _, .cons n t h => .cons ⟨t, rfl⟩ (vals_ints h)

/-- nothing is tracked but the script, known to the object (or it is an object of the module) -/
def Only (H : Hp) : Prop := ∀ b, H b = none ∨ ∃ o xs, H b = some (.frz o (.lst xs))

/-- THE HEAD: the law's promise, at the heap behind the top. F, the promise of the law's def, may use that base is part of the heap (so K.In base, base.Ns mainGlobals mg stand in Mod) -/
theorem law_call {P : Program} {w : World} {K : PySem.W.Frag} {mg mb : Str → Option Value} {CX : CXT} {k : Nat} {fa a : Addr} {fd : FuncData} {x : Str} {sp : Sp} {s₁ : Shared} {vs : List Value} {ns : List Int}
    (KX : K.In s₁.heap) (hns : s₁.heap.Ns mainGlobals mg) (hb : s₁.heap.Ns builtinsNs mb) (hbb : ∀ x : Str, x ≠ "__name__" → mb x = bootBuiltins x) (hlim : s₁.heap.NoLimit) (hg : s₁.gens = #[])
    (ha : s₁.heap.get? a = some { cls := .type "list", data := .seq vs.toArray }) (hi : IntsAre vs ns) (hl : ns.length ≤ sizeLine) (hr : Room k callerA)
    (F : ∀ base : Heap, K.In base → base.Ns mainGlobals mg → FnOk P w K mg base CX k fa fd [x] sp) (hbind : ∀ (s : Shared) (u : Value), BindsTo s fd ⟨[u], []⟩ [(x, u)])
    (hsp : ∀ H : Hp, Only H → SqL K H a (ns.map V.int) → sp [.ref a] H (fun v _ => v = .bl true) fun _ _ _ => False)
    (hCX : ∀ H e s', CX [] H s₁ (fun _ _ _ => False) e s' → False) :
    codeAny (model P w) callerA (.call (.ref fa) ⟨[.ref a], []⟩) (fun r s' => r = .ok (.ret (.bool true)) ∧ OldK s₁.heap s'.heap ∧ s'.os = s₁.os ∧ AllBare s'.gens) s₁ := by
  have rv := vals_ints hi
  have lenV := hi.length
  -- from an abstract heap in which nothing but the script may be tracked
  have core : ∀ H : Hp, Only H → SqL K H a (ns.map V.int) → HOk P w H s₁.heap → (∀ b, H b ≠ none → b = a) → (H a ≠ none → K.lookup a = none) →
      codeAny (model P w) callerA (.call (.ref fa) ⟨[.ref a], []⟩) (fun r s' => r = .ok (.ret (.bool true)) ∧ OldK s₁.heap s'.heap ∧ s'.os = s₁.os ∧ AllBare s'.gens) s₁ := by
    intro H hO hS hok hA hK
    have base_of : ∀ {b : Addr} {o : Obj}, s₁.heap.get? b = some o → H b = none → (hidT s₁.heap H).get? b = some o := fun e n => hidT_get e n
    have noA : ∀ {b : Addr} {o : Obj} {es : Array DictEntry} {ep : Nat}, s₁.heap.get? b = some o → o.data = .dict es ep → H b = none := fun {b o es ep} e d => by
      cases q : H b with
      | none => rfl
      | some u =>
        have e' : b = a := hA b (by rw [q]; simp)
        subst e'
        rw [ha] at e; cases e
        have d' : Data.seq vs.toArray _ = Data.dict es ep := d
        cases d'
    have nsK : ∀ {b : Addr} {m : Str → Option Value}, s₁.heap.Ns b m → (hidT s₁.heap H).Ns b m := fun {b m} ⟨o, es, ep, e, d, r⟩ => ⟨o, es, ep, base_of e (noA e d), d, r⟩
    have hKb : K.In (hidT s₁.heap H) := fun b o e => base_of (KX b o e) (by
      cases q : H b with
      | none => rfl
      | some u =>
        have e' : b = a := hA b (by rw [q]; simp)
        subst e'
        rw [hK (by rw [q]; simp)] at e; cases e)
    have hM : Mod K mg (hidT s₁.heap H) := ⟨hKb, nsK hns, ⟨mb, nsK hb, hbb⟩, let ⟨mc, h1, h2⟩ := hlim; ⟨mc, nsK h1, h2⟩⟩
    have e0 : Env0 P w K mg (hidT s₁.heap H) callerA [] s₁ H := ⟨rfl, hM, fun b o e => of_hidT e, Nat.le_of_eq (hidT_size _ _), trivial, fun b hb => absurd (show b ∈ ([] : List Addr) from hb) (by simp), hok, .of_eq hg⟩
    refine codeAny_mono ((F _ hKb (nsK hns)).run callerA [] s₁ H ⟨[.ref a], []⟩ [.ref a] [.ref a] _ _ hr e0 (hbind s₁ (.ref a)) (.cons rfl .nil) (hsp H hO hS)) fun r s' h => ?_
    cases r with
    | error e => exact (hCX H e s' h).elim
    | ok fl =>
      cases fl with
      | next => exact False.elim h
      | brk => exact False.elim h
      | cont => exact False.elim h
      | ret u =>
        obtain ⟨v, H', os, bare, un, hok', r', q⟩ := h
        have q' : v = .bl true := q
        subst q'
        obtain rfl : u = Value.bool true := r'
        refine ⟨rfl, OldK.of_keep fun b o e => ?_, os, bare⟩
        cases q : H b with
        | none => exact un.keep b o e q (by intro z; exact absurd (show b ∈ ([] : List Addr) from z) (by simp)) (by simp)
        | some u =>
          rcases hO b with z | ⟨ob, xs, z⟩
          · rw [q] at z; cases z
          · have z2 := un.frzs b ob _ z
            obtain ⟨e1, _⟩ := hok b _ z
            obtain ⟨e2, _⟩ := hok' b _ z2
            rw [e] at e1; cases e1
            exact e2
  cases hk : K.lookup a with
  | some o =>
    -- the script is one of the module's own objects
    have e := KX a o hk
    rw [ha] at e
    cases e
    refine core (fun _ => none) (fun _ => .inl rfl) (.inr ⟨_, vs.toArray, _, hk, rfl, rfl, rfl, by rw [List.size_toArray, lenV]; exact hl, by simpa using rv⟩) (fun b u z => by have z' : (none : Option HO) = some u := z; cases z') (fun b z => absurd rfl z) fun z => absurd rfl z
  | none =>
    refine core (fun b => if b = a then some (.frz { cls := .type "list", data := .seq vs.toArray } (.lst (ns.map V.int))) else none) (fun b => ?_) (.inl (.inr ⟨{ cls := .type "list", data := .seq vs.toArray }, if_pos rfl⟩)) (fun b u z => ?_) (fun b z => ?_) fun _ => hk
    · by_cases hb : b = a
      · exact .inr ⟨_, _, if_pos hb⟩
      · exact .inl (if_neg hb)
    · by_cases hb : b = a
      · have z' := (if_pos hb).symm.trans z
        cases z'
        subst hb
        exact ⟨ha, by rw [List.length_map]; exact hl, vs, _, rv, ha⟩
      · have z' := (if_neg hb).symm.trans z
        cases z'
    · by_cases hb : b = a
      · exact hb
      · exact absurd (if_neg hb) z
end L2

namespace L2
open PySem PySem.Spec PyProof.Rows

/-- the goal that k_head leaves (case hc), from the law's promise. F gives the function object fd (K's own) once, then the promise over every base -/
theorem walk_of {l : PySem.W.OpenLaw} {n k : Nat} {q : Program} {loose : List Str} {XP : (Str → Option Value) → Heap → Prop} {YP : World → Heap → Prop} {d : DefRec} {K : Params → PySem.W.Frag} {CX : World → CXT} {sp : World → Sp} {x : Str}
    (hn : l.most = some n) (hn2 : n ≤ sizeLine) (hdf : d.params.defaults = []) (hr : Room k callerA)
    (hY : ∀ (w : World) (h : Heap), YP w h → (K w.params).In h)
    (F : ∀ (w : World) (mg : Str → Option Value) (fa : Addr) (h : Heap), (K w.params).In h → h.Ns mainGlobals mg → mg d.name = some (.ref fa) →
      ∃ fd : FuncData, (∀ (s : Shared) (u : Value), BindsTo s fd ⟨[u], []⟩ [(x, u)]) ∧
        ∀ base : Heap, (K w.params).In base → base.Ns mainGlobals mg → FnOk l.prog w (K w.params) mg base (CX w) k fa fd [x] (sp w))
    (hsp : ∀ (w : World) (H : Hp) (a : Addr) (ns : List Int), ns.length ≤ n → Only H → SqL (K w.params) H a (ns.map V.int) → sp w [.ref a] H (fun v _ => v = .bl true) fun _ _ _ => False)
    (hCX : ∀ (w : World) (H : Hp) (s : Shared) (e : Value) (s' : Shared), CX w [] H s (fun _ _ _ => False) e s' → False) :
    PySem.W.WalkO q loose XP YP l.row.toRowW d [] (fun f vs => PySem.call f vs) := by
  refine Att.attach_call hn hdf fun w s₀ s₁ mg mb fa o pm cd doc a vs ns G Y ho hd hcd hmg hobj hints hlen hg => ?_
  have KX := hY w _ Y
  obtain ⟨fd, hb, hF⟩ := F w mg fa _ KX G.T.g hmg
  exact law_call KX G.T.g G.T.b G.T.builtins G.T.nolimit hg hobj hints (Nat.le_trans hlen hn2) hr hF hb (fun H hO hS => hsp w H a ns hlen hO hS) fun H e s' => hCX w H s₁ e s'
end L2


/-! SHORT WORDS over the layer: a def of the text, its body, what a loop and a test want. -/
namespace L2
open PySem PySem.Spec PyProof.Rows

/-! ### the text by places -/
/-- the j-th statement of a class's body -/
def inClass (s : Stmt) (j : Nat) : Stmt := match s with
  | .ClassDef _ _ _ body _ _ _ _ _ _ _ => body.getD j (.Pass ⟨0, 0, 0, 0⟩)
  | _ => .Pass ⟨0, 0, 0, 0⟩
def defArgs (s : Stmt) : Arguments := match s with
  | .FunctionDef _ a _ _ _ _ _ _ _ _ => a
  | _ => { posonlyargs := [], args := [], vararg := none, kwonlyargs := [], kw_defaults := [], kwarg := none, defaults := [] }
def defBody (s : Stmt) : List Stmt := match s with
  | .FunctionDef _ _ b _ _ _ _ _ _ _ => b
  | _ => []
def defScope (s : Stmt) : Scope := match s with
  | .FunctionDef _ _ _ _ _ _ sc _ _ _ => sc
  | _ => { kind := .function, names := [], isGenerator := false, isCoroutine := false }

/-! ### no exception leaves a def -/
abbrev CX0 : CXT := fun _ _ _ _ _ _ => False
abbrev E0 : XK := fun _ _ _ => False
theorem pass0 {X : Cx} : Passes CX0 X E0 := fun _ _ _ _ _ _ _ h => h.elim

/-! ### a def (or method) of the text as it stands behind the top -/
structure Fun (K : PySem.W.Frag) (x qual : Str) (st : Stmt) (f : Addr) (fd : FuncData) : Prop where
  ex : ∃ (oc : Value) (od : Option Addr) (kV doc pm : Value) (an : Option Addr) (cdv ct : Value) (osl : Array (Option Value)),
    fd = PySem.W.fnOf x qual (defArgs st) (defBody st) (defScope st) .none kV doc pm an cdv ct ∧ K.lookup f = some ⟨oc, od, .func fd, osl⟩ ∧ PySem.W.codeIn K cdv qual = true
  kp : PySem.W.keepIn K (.ref f) = true
section
variable {P : Program} {w : World} {K : PySem.W.Frag} {mg : Str → Option Value} {base : Heap}
/-- THE RULE for a def: its body as a term of rules, and the reading of that term -/
theorem Fun.ok {x qual : Str} {st : Stmt} {f : Addr} {fd : FuncData} {N ps : List Str} {k : Nat} {sp : Sp} (F : Fun K x qual st f fd) (S : FnScope N ps (defScope st)) (len : ∀ vs H Q E, sp vs H Q E → vs.length = ps.length)
    (hbody : ∀ (cdv : Value) (A : Around) (outer : List Env) (s : Shared) (H : Hp) (vs : List V) (Q : VK) (E : XK), Room k (A.deeper (envOfC qual (defScope st) s.heap.objs.size f cdv)) → sp vs H Q E →
      ∃ t, PSs (cxOf CX0 P w K mg base N qual (defScope st) f cdv A outer s H E).nox (defBody st) t ∧ t { nx := fun _ H' => Q .non H', rt := Q } (start N vs) H) : FnOk P w K mg base CX0 (k + 1) f fd ps sp := by
  obtain ⟨oc, od, kV, doc, pm, an, cdv, ct, osl, rfl, lk, hcd⟩ := F.ex
  refine fn_of lk hcd S len fun A outer s H vs Q E hr hsp => ?_
  obtain ⟨t, h, q⟩ := hbody cdv A outer s H vs Q E hr hsp
  exact ⟨t, h.nox, q⟩
/-- how its arguments bind (no defaults): h is «fun _ _ _ _ _ _ us hl => match us, hl with | [_, _], _ => rfl», one _ a parameter -/
theorem Fun.binds {x qual : Str} {st : Stmt} {f : Addr} {fd : FuncData} {ps : List Str} (F : Fun K x qual st f fd)
    (h : ∀ (kV doc pm : Value) (an : Option Addr) (cdv ct : Value) (us : List Value), us.length = ps.length → bindArgs (PySem.W.fnOf x qual (defArgs st) (defBody st) (defScope st) .none kV doc pm an cdv ct) ⟨us, []⟩ = pure (ps.zip us)) : Binds K fd ps [] := by
  obtain ⟨oc, od, kV, doc, pm, an, cdv, ct, osl, rfl, lk, hcd⟩ := F.ex
  exact .all (h kV doc pm an cdv ct)
theorem fun_mk {x qual : Str} {st : Stmt} {f : Addr} {oc : Value} {od an : Option Addr} {osl : Array (Option Value)} {kV doc pm cdv ct : Value} (l : K.lookup f = some ⟨oc, od, .func (PySem.W.fnOf x qual (defArgs st) (defBody st) (defScope st) .none kV doc pm an cdv ct), osl⟩)
    (c : PySem.W.codeIn K cdv qual = true) (k : PySem.W.keepIn K (.ref f) = true) : Fun K x qual st f (PySem.W.fnOf x qual (defArgs st) (defBody st) (defScope st) .none kV doc pm an cdv ct) := ⟨⟨oc, od, kV, doc, pm, an, cdv, ct, osl, rfl, l, c⟩, k⟩
end
theorem hu_of {A : Around} {k : Nat} (hr : Room k A) : A.units + 1 < cLine := Nat.lt_of_le_of_lt (Nat.add_le_add_left (by decide : 1 ≤ 64) _) hr.units
/-! ### expressions in short: the name that stands in the i-th slot -/
section
variable {X : Cx}
theorem pv (i : Nat) {x : Str} {pos : Pos} (hN : X.N[i]? = some x := by rfl) (hv : Vis X.env.scope x := by first | exact Or.inl rfl | exact Or.inr (Or.inl rfl) | exact Or.inr (Or.inr rfl)) (hd : (x == ("__debug__" : Str)) = false := by decide)
    (hcd : (x == ("__classdict__" : Str)) = false := by decide) : PE X (.Name x pos) (tVar i) := pe_var hN hv hd hcd
end

/-! ### tests -/
theorem iteF {A B : Prop} (h : B) : if false = true then A else B := by
  rw [if_neg Bool.false_ne_true]
  exact h
theorem iteT {A B : Prop} (h : A) : if true = true then A else B := by
  rw [if_pos rfl]
  exact h
/-! ### heaps -/
/-- all that was tracked is as it was -/
def Same (H H' : Hp) : Prop := ∀ b o, H b = some o → H' b = some o
theorem Same.refl (H : Hp) : Same H H := fun _ _ h => h
theorem Same.trans {H H1 H2 : Hp} (a : Same H H1) (b : Same H1 H2) : Same H H2 := fun c o h => b c o (a c o h)
theorem Same.free {H H' : Hp} (e : Same H H') {l : Addr} (h : H' l = Option.none) : H l = Option.none := by
  cases q : H l with
  | none => rfl
  | some o =>
    rw [e l o q] at h
    cases h
theorem Same.seq {K : PySem.W.Frag} {H H' : Hp} {a : Addr} {xs : List V} (e : Same H H') (h : SqL K H a xs) : SqL K H' a xs := by
  rcases h with (h | ⟨o, h⟩) | h
  · exact .inl (.inl (e _ _ h))
  · exact .inl (.inr ⟨o, e _ _ h⟩)
  · exact .inr h

end L2
/-! RULES OF OUR OWN over the layer: isinstance, == of data, // and << of great numbers, and a word for each reading (i_..), so that a reading goes step by step. -/
namespace L2
open PySem PySem.Spec PyProof.Rows

/-! ### isinstance -/
section
variable {X : Cx}
theorem call_isinst : CallR X (.builtin "isinstance") (fun xs H Q => ∃ x cv t c k, xs = [x, cv] ∧ RelV cv c ∧ (∀ u, RelV cv u → u = c) ∧ TyOf X.K H x t ∧ PySem.W.kitOne X.K t c = some k ∧ Q (.bl k) H) := by
  intro pins s σ H xs us Q I r h
  obtain ⟨x, cv, t, c, k, rfl, _, hc, ty, e, q⟩ := h
  obtain ⟨u, u', rfl, rx, rc⟩ := vals2 r
  obtain rfl := hc u' rc
  exact isinst_ok I rx ty e fun tk => ⟨.bl k, H, I.tok tk, rfl, q⟩

theorem pe_bty {x : Str} {T : String} {pos : Pos} (hg : Gl X x) (hm : X.mg x = none) (hv : bootBuiltins x = some (.type T)) (hn : x ≠ "__name__" := by decide) (hd : (x == ("__debug__" : Str)) = false := by decide) : PE X (.Name x pos) (tC (.ty T)) := pe_bltn hg hm hv rfl hn hd
theorem pe_gint {x : Str} {i : Int} {t : Tok} {pos : Pos} (hg : Gl X x) (hm : X.mg x = some (.int i t)) (hd : (x == ("__debug__" : Str)) = false := by decide) : PE X (.Name x pos) (tC (.int i)) := pe_glob hg hm ⟨t, rfl⟩ hd
theorem pe_gref {x : Str} {C : Addr} {pos : Pos} (hg : Gl X x) (hm : X.mg x = some (.ref C)) (hd : (x == ("__debug__" : Str)) = false := by decide) : PE X (.Name x pos) (tC (.ref C)) := pe_glob hg hm rfl hd

/-! ### == of data: ints, truths, texts, None, lists and tuples of such -/
mutual
inductive RdV (K : PySem.W.Frag) (H : Hp) : V → PyData → Prop
  | non : RdV K H .non .none
  | bl (b) : RdV K H (.bl b) (.bool b)
  | int (i) : RdV K H (.int i) (.int i)
  | str (x) : RdV K H (.str x) (.str x)
  | lst {a xs ds} : SqL K H a xs → RdVs K H xs ds → RdV K H (.ref a) (.list ds)
  | tup {a xs ds} : SqT K H a xs → RdVs K H xs ds → RdV K H (.ref a) (.tuple ds)
inductive RdVs (K : PySem.W.Frag) (H : Hp) : List V → List PyData → Prop
  | nil : RdVs K H [] []
  | cons {x xs d ds} : RdV K H x d → RdVs K H xs ds → RdVs K H (x :: xs) (d :: ds)
end
mutual
theorem RdV.reads {pins : List (Addr × Obj)} {σ : St} {H : Hp} {s : Shared} (I : Inv X pins σ H s) : ∀ {x : V} {d : PyData} {u : Value}, RdV X.K H x d → RelV x u → ∃ as, Reads s.heap u d as
  | _, _, _, .non, r => by cases r; exact ⟨_, .none⟩
  | _, _, _, .bl _, r => by cases r; exact ⟨_, .bool _⟩
  | _, _, _, .int _, r => by obtain ⟨t, rfl⟩ := r; exact ⟨_, .int _ _⟩
  | _, _, _, .str _, r => by obtain ⟨t, rfl⟩ := r; exact ⟨_, .str _ _⟩
  | _, _, _, .lst hq hs, r => by
    cases r
    obtain ⟨its, rv, ⟨o, n, h1, h2, h3, h4⟩, hz⟩ := I.list hq
    obtain ⟨as, ra⟩ := RdVs.reads I hs rv
    exact ⟨_, .list h1 h2 h4 (by simpa using ra)⟩
  | _, _, _, .tup hq hs, r => by
    cases r
    obtain ⟨its, rv, ⟨o, h1, h2, n, h4⟩, hz⟩ := I.tuple hq
    obtain ⟨as, ra⟩ := RdVs.reads I hs rv
    exact ⟨_, .tuple h1 h2 h4 (by simpa using ra)⟩
theorem RdVs.reads {pins : List (Addr × Obj)} {σ : St} {H : Hp} {s : Shared} (I : Inv X pins σ H s) : ∀ {xs : List V} {ds : List PyData} {us : List Value}, RdVs X.K H xs ds → Vals xs us → ∃ as, ReadsAll s.heap us ds as
  | _, _, _, .nil, .nil => ⟨_, .nil⟩
  | _, _, _, .cons h hs, .cons r rs => by
    obtain ⟨as, ra⟩ := RdV.reads I h r
    obtain ⟨bs, rb⟩ := RdVs.reads I hs rs
    exact ⟨_, .cons ra rb⟩
end
def rEqD (K : PySem.W.Frag) (g : Bool → Bool) : R2 := fun x y H Q => ∃ d e, RdV K H x d ∧ RdV K H y e ∧ SeqAt.shaped d = true ∧ SeqAt.shaped e = true ∧ Q (.bl (g (PyData.eqv d e))) H
theorem op_eqD (hu : X.A.units + 64 < cLine) : OpR X (compareOp .Eq) (rEqD X.K fun b => b) := by
  intro pins s σ H x y v u Q I rx ry h
  obtain ⟨d, e, h1, h2, s1, s2, q⟩ := h
  obtain ⟨as, ra⟩ := h1.reads I rx
  obtain ⟨bs, rb⟩ := h2.reads I ry
  exact eq_dataH ra rb s1 s2 hu ⟨.bl _, H, I, rfl, q⟩
theorem rdVs_ints {K : PySem.W.Frag} {H : Hp} : ∀ ns : List Int, RdVs K H (ns.map V.int) (ns.map PyData.int)
  | [] => .nil
  | n :: r => .cons (.int n) (rdVs_ints r)
theorem canLay_ints : ∀ ns : List Int, PyData.canLayAll0 (ns.map PyData.int) = true
  | [] => rfl
  | _ :: r => by simp [PyData.canLayAll0, PyData.canLay0, canLay_ints r]
theorem depth_ints : ∀ ns : List Int, PyData.depthAll (ns.map PyData.int) = 0
  | [] => rfl
  | _ :: r => by simp [PyData.depthAll, PyData.depth, depth_ints r]
theorem shaped_lst (ns : List Int) : SeqAt.shaped (.list (ns.map PyData.int)) = true := by
  simp [SeqAt.shaped, PyData.canLay0, PyData.depth, canLay_ints, depth_ints]
theorem eqvAll_ints : ∀ ns ms : List Int, PyData.eqvAll (ns.map PyData.int) (ms.map PyData.int) = decide (ns = ms)
  | [], [] => by simp [PyData.eqvAll]
  | [], _ :: _ => by simp [PyData.eqvAll]
  | _ :: _, [] => by simp [PyData.eqvAll]
  | a :: r, b :: t => by
    simp only [List.map_cons, PyData.eqvAll, PyData.eqv, eqvAll_ints r t]
    by_cases h : a = b <;> by_cases h' : r = t <;> simp [h, h']
/-- lists of ints, tuples of ints -/
theorem i_eqL {K : PySem.W.Frag} {g : Bool → Bool} {H : Hp} {Q : VK} {a b : Addr} (ns ms : List Int) (ha : SqL K H a (ns.map V.int)) (hb : SqL K H b (ms.map V.int)) (h : Q (.bl (g (decide (ns = ms)))) H) : rEqD K g (.ref a) (.ref b) H Q :=
  ⟨_, _, .lst ha (rdVs_ints ns), .lst hb (rdVs_ints ms), shaped_lst ns, shaped_lst ms, by rw [PyData.eqv, eqvAll_ints]; exact h⟩
/-! ### // by a great positive number, << of a great number -/
def CDivB (_ j : Int) : Prop := 0 < j ∧ j < 2 ^ 200
theorem op_fdivB : OpR X (binaryOp .FloorDiv) (rI CDivB fun i j => .int (i / j)) := opI fun i j _ _ _ _ _ hc q => by
  obtain ⟨h1, h2⟩ := hc
  refine floordiv_int (by omega) ?_ (.inl (PyProof.noPylong_of_log2 ?_))
  · rw [Int.fdiv_eq_ediv_of_nonneg _ (by omega)]; exact q
  · have e : j.natAbs < 2 ^ 200 := by omega
    have e' : j.natAbs ≠ 0 := by omega
    have := (Nat.log2_lt e').mpr e
    omega
/-- a power of two written numbers -/
def rPowC (k : Int) : R2 := fun x y H Q => ∃ i j, x = .int i ∧ y = .int j ∧ CPow i j ∧ i ^ j.toNat = k ∧ Q (.int k) H
/-- a statement by a word that holds behind it -/
def tMid (t : TS) : TS := fun D σ H => ∃ M : St → Hp → Prop, t { D with nx := M } σ H ∧ ∀ σ' H', M σ' H' → D.nx σ' H'
theorem ps_mid {st : Stmt} {t : TS} (h : PS X st t) : PS X st (tMid t) := by
  intro pins s σ H D I ⟨M, h1, h2⟩
  refine thn (h pins s σ H { D with nx := M } I h1) fun f s1 q => ?_
  cases f with
  | next =>
    obtain ⟨σ', H', I', q⟩ := q
    exact ⟨σ', H', I', h2 σ' H' q⟩
  | ret v => exact q
  | brk => exact q
  | cont => exact q
end

/-- a wish about what stands behind, kept from being reckoned on the way -/
def After (nx : St → Hp → Prop) (σ : St) (H : Hp) : Prop := nx σ H

/-! ### a word for each reading -/
section
variable {K : PySem.W.Frag} {σ : St} {H : Hp} {Q : VK} {QB : Bool → Hp → Prop} {QL : List V → Hp → Prop} {v x y : V} {i j : Int} {b : Bool} {ta tb tc te : TE} {t u : TS} {tA tB' : TT} {tr : TA} {D : Ends}
  {nx bk ct : St → Hp → Prop} {rt : VK} {A B : Prop}
theorem i_start {N : List Str} {vs : List V} {σ' : St} (e : start N vs = σ') (h : t D σ' H) : t D (start N vs) H := by rw [e]; exact h
theorem i_var {k : Nat} (e : σ[k]? = some (some v)) (h : Q v H) : tVar k σ H Q := ⟨v, e, h⟩
theorem i_c (h : Q v H) : tC v σ H Q := h
theorem i_op {r : R2} (h : ta σ H fun x H1 => tb σ H1 fun y H2 => r x y H2 Q) : tOp r ta tb σ H Q := h
theorem i_un {r : V → Hp → VK → Prop} (h : ta σ H fun x H1 => r x H1 Q) : tUn r ta σ H Q := h
theorem i_I0 {g : Int → Int → V} (h : Q (g i j) H) : rI0 g (.int i) (.int j) H Q := ⟨i, j, rfl, rfl, h⟩
theorem i_I {C : Int → Int → Prop} {g : Int → Int → V} (hc : C i j) (h : Q (g i j) H) : rI C g (.int i) (.int j) H Q := ⟨i, j, rfl, rfl, hc, h⟩
theorem i_U {g : Int → V} (h : Q (g i) H) : rU g (.int i) H Q := ⟨i, rfl, h⟩
theorem i_eqI (h : Q (.bl (decide (i = j))) H) : rEq (.int i) (.int j) H Q := ⟨rfl, by
  have e : decide (V.int i = V.int j) = decide (i = j) := by simp
  rw [e]; exact h⟩
theorem i_neI (h : Q (.bl (!decide (i = j))) H) : rNe (.int i) (.int j) H Q := ⟨rfl, by
  have e : decide (V.int i = V.int j) = decide (i = j) := by simp
  rw [e]; exact h⟩
theorem i_test (h : ta σ H fun x H' => ∃ k, x = .bl k ∧ QB k H') : tTest ta σ H QB := h
theorem i_tB (h : ta σ H fun x H' => ∃ k, x = .bl k ∧ QB k H') : tB ta σ H QB := h
theorem i_bl {P : Bool → Prop} (h : P b) : ∃ k, V.bl b = V.bl k ∧ P k := ⟨b, rfl, h⟩
theorem i_chain {r r' : R2} (h : ta σ H fun x H1 => tb σ H1 fun y H2 => r x y H2 fun z H3 => ∃ k, z = .bl k ∧ (if k = true then tc σ H3 fun w' H4 => r' y w' H4 Q else Q (.bl false) H3)) : tChain r r' ta tb tc σ H Q := h
theorem i_andV (h : ta σ H fun x H1 => ∃ c, x = .bl c ∧ if c = true then tb σ H1 Q else Q (.bl false) H1) : tAndV ta tb σ H Q := h
theorem i_orV (h : ta σ H fun x H1 => ∃ c, x = .bl c ∧ if c = true then Q (.bl true) H1 else tb σ H1 Q) : tOrV ta tb σ H Q := h
theorem i_notV (h : ta σ H fun x H1 => ∃ c, x = .bl c ∧ Q (.bl (!c)) H1) : tNotV ta σ H Q := h
theorem i_and {t1 t2 : TT} (h : t1 σ H fun c H1 => if c = true then t2 σ H1 QB else QB false H1) : tAnd t1 t2 σ H QB := h
theorem i_or {t1 t2 : TT} (h : t1 σ H fun c H1 => if c = true then QB true H1 else t2 σ H1 QB) : tOr t1 t2 σ H QB := h
theorem i_not {t1 : TT} (h : t1 σ H fun c H1 => QB (!c) H1) : tNot t1 σ H QB := h
theorem i_ifE (h : tA σ H fun c H1 => if c = true then ta σ H1 Q else tb σ H1 Q) : tIf tA ta tb σ H Q := h
theorem i_seq (h : t ⟨u D, D.rt, D.bk, D.ct⟩ σ H) : tSeq t u D σ H := h
theorem i_next (h : nx σ H) : tNext ⟨nx, rt, bk, ct⟩ σ H := h
theorem i_ret (h : te σ H rt) : tRet te ⟨nx, rt, bk, ct⟩ σ H := h
theorem i_retN (h : rt .non H) : tRetN ⟨nx, rt, bk, ct⟩ σ H := h
theorem i_drop (h : te σ H fun _ H1 => nx σ H1) : tDrop te ⟨nx, rt, bk, ct⟩ σ H := h
theorem i_if (h : tA σ H fun c H1 => if c = true then t D σ H1 else u D σ H1) : tIfS tA t u D σ H := h
theorem i_mid {t : TS} (M : St → Hp → Prop) (h1 : t ⟨M, rt, bk, ct⟩ σ H) (h2 : ∀ σ' H', M σ' H' → nx σ' H') : tMid t ⟨nx, rt, bk, ct⟩ σ H := ⟨M, h1, h2⟩
theorem i_asg {g : TG} (h : te σ H fun x H1 => g x σ H1 nx) : tAsg te g ⟨nx, rt, bk, ct⟩ σ H := h
theorem i_call {sp : Sp} {dvs : List V} {E : XK} (h : tr σ H fun vs H1 => sp (vs ++ dvs) H1 Q E) : tCall sp dvs E tr σ H Q := h
theorem i_cons (h : ta σ H fun x H1 => tr σ H1 fun xs H2 => QL (x :: xs) H2) : tCons ta tr σ H QL := h
theorem i_nil (h : QL [] H) : tNil σ H QL := h
theorem i_cb {r : List V → Hp → VK → Prop} (h : tr σ H fun vs H1 => r vs H1 Q) : tCB r tr σ H Q := h
theorem i_tup (h : tr σ H fun xs H1 => xs.length ≤ sizeLine ∧ ∀ p, H1 p = none → Q (.ref p) (upd H1 p (.tup xs))) : tTup tr σ H Q := h
theorem i_lst (h : tr σ H fun xs H1 => xs.length ≤ sizeLine ∧ ∀ p, H1 p = none → Q (.ref p) (upd H1 p (.lst xs))) : tLst tr σ H Q := h
theorem i_meth {C : Addr} {m : Str} {sp : Sp} {dvs : List V} {E : XK} (h : ta σ H fun x H1 => ∃ a dx fs, x = .ref a ∧ H1 a = some (.ins C dx fs) ∧ fs.lookup m = none ∧ tr σ H1 fun vs H2 => sp (x :: (vs ++ dvs)) H2 Q E) : tMeth C m sp dvs E ta tr σ H Q := h
theorem i_fld {f : Str} (h : ta σ H fun x H1 => ∃ a C dx fs v, x = .ref a ∧ H1 a = some (.ins C dx fs) ∧ Cls K C ∧ NoAttr K C f ∧ fs.lookup f = some v ∧ Q v H1) : tFld K ta f σ H Q := h
theorem i_sfld {f : Str} (h : tb σ H fun y H1 => ta σ H1 fun x H2 => ∃ a C dx fs, x = .ref a ∧ H2 a = some (.ins C dx fs) ∧ Cls K C ∧ NoAttr K C f ∧ fs.length < 1000 ∧ After nx σ (upd H2 a (.ins C dx (putF f y fs)))) : sFld K ta tb f ⟨nx, rt, bk, ct⟩ σ H := h
theorem i_sl {r : V → Option Int → Option Int → Hp → VK → Prop} {tl th : TO} (h : te σ H fun x H1 => tl σ H1 fun l H2 => th σ H2 fun u H3 => r x l u H3 Q) : tSl r te tl th σ H Q := h
theorem i_noPart {QO : Option Int → Hp → Prop} (h : QO none H) : tNoPart σ H QO := h
theorem i_part {QO : Option Int → Hp → Prop} (h : ta σ H fun x H1 => ∃ i, x = .int i ∧ QO (some i) H1) : tPart ta σ H QO := h
theorem i_int {P : Int → Prop} (h : P i) : ∃ k, V.int i = V.int k ∧ P k := ⟨i, rfl, h⟩
theorem i_nonA (h : A) : V.non = V.non ∧ A := ⟨rfl, h⟩
theorem g0 {a0 : Option V} {r : St} {N : St → Hp → Prop} (h : N (some v :: r) H) : gName 0 v (a0 :: r) H N := h
theorem g1 {a0 a1 : Option V} {r : St} {N : St → Hp → Prop} (h : N (a0 :: some v :: r) H) : gName 1 v (a0 :: a1 :: r) H N := h
theorem g2 {a0 a1 a2 : Option V} {r : St} {N : St → Hp → Prop} (h : N (a0 :: a1 :: some v :: r) H) : gName 2 v (a0 :: a1 :: a2 :: r) H N := h
theorem g3 {a0 a1 a2 a3 : Option V} {r : St} {N : St → Hp → Prop} (h : N (a0 :: a1 :: a2 :: some v :: r) H) : gName 3 v (a0 :: a1 :: a2 :: a3 :: r) H N := h
theorem g4 {a0 a1 a2 a3 a4 : Option V} {r : St} {N : St → Hp → Prop} (h : N (a0 :: a1 :: a2 :: a3 :: some v :: r) H) : gName 4 v (a0 :: a1 :: a2 :: a3 :: a4 :: r) H N := h
theorem g5 {a0 a1 a2 a3 a4 a5 : Option V} {r : St} {N : St → Hp → Prop} (h : N (a0 :: a1 :: a2 :: a3 :: a4 :: some v :: r) H) : gName 5 v (a0 :: a1 :: a2 :: a3 :: a4 :: a5 :: r) H N := h
theorem g6 {a0 a1 a2 a3 a4 a5 a6 : Option V} {r : St} {N : St → Hp → Prop} (h : N (a0 :: a1 :: a2 :: a3 :: a4 :: a5 :: some v :: r) H) : gName 6 v (a0 :: a1 :: a2 :: a3 :: a4 :: a5 :: a6 :: r) H N := h
theorem g7 {a0 a1 a2 a3 a4 a5 a6 a7 : Option V} {r : St} {N : St → Hp → Prop} (h : N (a0 :: a1 :: a2 :: a3 :: a4 :: a5 :: a6 :: some v :: r) H) : gName 7 v (a0 :: a1 :: a2 :: a3 :: a4 :: a5 :: a6 :: a7 :: r) H N := h
theorem g8 {a0 a1 a2 a3 a4 a5 a6 a7 a8 : Option V} {r : St} {N : St → Hp → Prop} (h : N (a0 :: a1 :: a2 :: a3 :: a4 :: a5 :: a6 :: a7 :: some v :: r) H) : gName 8 v (a0 :: a1 :: a2 :: a3 :: a4 :: a5 :: a6 :: a7 :: a8 :: r) H N := h
theorem g9 {a0 a1 a2 a3 a4 a5 a6 a7 a8 a9 : Option V} {r : St} {N : St → Hp → Prop} (h : N (a0 :: a1 :: a2 :: a3 :: a4 :: a5 :: a6 :: a7 :: a8 :: some v :: r) H) : gName 9 v (a0 :: a1 :: a2 :: a3 :: a4 :: a5 :: a6 :: a7 :: a8 :: a9 :: r) H N := h
theorem g10 {a0 a1 a2 a3 a4 a5 a6 a7 a8 a9 a10 : Option V} {r : St} {N : St → Hp → Prop} (h : N (a0 :: a1 :: a2 :: a3 :: a4 :: a5 :: a6 :: a7 :: a8 :: a9 :: some v :: r) H) : gName 10 v (a0 :: a1 :: a2 :: a3 :: a4 :: a5 :: a6 :: a7 :: a8 :: a9 :: a10 :: r) H N := h
theorem g11 {a0 a1 a2 a3 a4 a5 a6 a7 a8 a9 a10 a11 : Option V} {r : St} {N : St → Hp → Prop} (h : N (a0 :: a1 :: a2 :: a3 :: a4 :: a5 :: a6 :: a7 :: a8 :: a9 :: a10 :: some v :: r) H) : gName 11 v (a0 :: a1 :: a2 :: a3 :: a4 :: a5 :: a6 :: a7 :: a8 :: a9 :: a10 :: a11 :: r) H N := h
theorem g12 {a0 a1 a2 a3 a4 a5 a6 a7 a8 a9 a10 a11 a12 : Option V} {r : St} {N : St → Hp → Prop} (h : N (a0 :: a1 :: a2 :: a3 :: a4 :: a5 :: a6 :: a7 :: a8 :: a9 :: a10 :: a11 :: some v :: r) H) : gName 12 v (a0 :: a1 :: a2 :: a3 :: a4 :: a5 :: a6 :: a7 :: a8 :: a9 :: a10 :: a11 :: a12 :: r) H N := h
theorem g13 {a0 a1 a2 a3 a4 a5 a6 a7 a8 a9 a10 a11 a12 a13 : Option V} {r : St} {N : St → Hp → Prop} (h : N (a0 :: a1 :: a2 :: a3 :: a4 :: a5 :: a6 :: a7 :: a8 :: a9 :: a10 :: a11 :: a12 :: some v :: r) H) : gName 13 v (a0 :: a1 :: a2 :: a3 :: a4 :: a5 :: a6 :: a7 :: a8 :: a9 :: a10 :: a11 :: a12 :: a13 :: r) H N := h
theorem g14 {a0 a1 a2 a3 a4 a5 a6 a7 a8 a9 a10 a11 a12 a13 a14 : Option V} {r : St} {N : St → Hp → Prop} (h : N (a0 :: a1 :: a2 :: a3 :: a4 :: a5 :: a6 :: a7 :: a8 :: a9 :: a10 :: a11 :: a12 :: a13 :: some v :: r) H) : gName 14 v (a0 :: a1 :: a2 :: a3 :: a4 :: a5 :: a6 :: a7 :: a8 :: a9 :: a10 :: a11 :: a12 :: a13 :: a14 :: r) H N := h
theorem g15 {a0 a1 a2 a3 a4 a5 a6 a7 a8 a9 a10 a11 a12 a13 a14 a15 : Option V} {r : St} {N : St → Hp → Prop} (h : N (a0 :: a1 :: a2 :: a3 :: a4 :: a5 :: a6 :: a7 :: a8 :: a9 :: a10 :: a11 :: a12 :: a13 :: a14 :: some v :: r) H) : gName 15 v (a0 :: a1 :: a2 :: a3 :: a4 :: a5 :: a6 :: a7 :: a8 :: a9 :: a10 :: a11 :: a12 :: a13 :: a14 :: a15 :: r) H N := h
theorem g16 {a0 a1 a2 a3 a4 a5 a6 a7 a8 a9 a10 a11 a12 a13 a14 a15 a16 : Option V} {r : St} {N : St → Hp → Prop} (h : N (a0 :: a1 :: a2 :: a3 :: a4 :: a5 :: a6 :: a7 :: a8 :: a9 :: a10 :: a11 :: a12 :: a13 :: a14 :: a15 :: some v :: r) H) : gName 16 v (a0 :: a1 :: a2 :: a3 :: a4 :: a5 :: a6 :: a7 :: a8 :: a9 :: a10 :: a11 :: a12 :: a13 :: a14 :: a15 :: a16 :: r) H N := h
theorem g17 {a0 a1 a2 a3 a4 a5 a6 a7 a8 a9 a10 a11 a12 a13 a14 a15 a16 a17 : Option V} {r : St} {N : St → Hp → Prop} (h : N (a0 :: a1 :: a2 :: a3 :: a4 :: a5 :: a6 :: a7 :: a8 :: a9 :: a10 :: a11 :: a12 :: a13 :: a14 :: a15 :: a16 :: some v :: r) H) : gName 17 v (a0 :: a1 :: a2 :: a3 :: a4 :: a5 :: a6 :: a7 :: a8 :: a9 :: a10 :: a11 :: a12 :: a13 :: a14 :: a15 :: a16 :: a17 :: r) H N := h
theorem g18 {a0 a1 a2 a3 a4 a5 a6 a7 a8 a9 a10 a11 a12 a13 a14 a15 a16 a17 a18 : Option V} {r : St} {N : St → Hp → Prop} (h : N (a0 :: a1 :: a2 :: a3 :: a4 :: a5 :: a6 :: a7 :: a8 :: a9 :: a10 :: a11 :: a12 :: a13 :: a14 :: a15 :: a16 :: a17 :: some v :: r) H) : gName 18 v (a0 :: a1 :: a2 :: a3 :: a4 :: a5 :: a6 :: a7 :: a8 :: a9 :: a10 :: a11 :: a12 :: a13 :: a14 :: a15 :: a16 :: a17 :: a18 :: r) H N := h
theorem g19 {a0 a1 a2 a3 a4 a5 a6 a7 a8 a9 a10 a11 a12 a13 a14 a15 a16 a17 a18 a19 : Option V} {r : St} {N : St → Hp → Prop} (h : N (a0 :: a1 :: a2 :: a3 :: a4 :: a5 :: a6 :: a7 :: a8 :: a9 :: a10 :: a11 :: a12 :: a13 :: a14 :: a15 :: a16 :: a17 :: a18 :: some v :: r) H) : gName 19 v (a0 :: a1 :: a2 :: a3 :: a4 :: a5 :: a6 :: a7 :: a8 :: a9 :: a10 :: a11 :: a12 :: a13 :: a14 :: a15 :: a16 :: a17 :: a18 :: a19 :: r) H N := h
theorem g20 {a0 a1 a2 a3 a4 a5 a6 a7 a8 a9 a10 a11 a12 a13 a14 a15 a16 a17 a18 a19 a20 : Option V} {r : St} {N : St → Hp → Prop} (h : N (a0 :: a1 :: a2 :: a3 :: a4 :: a5 :: a6 :: a7 :: a8 :: a9 :: a10 :: a11 :: a12 :: a13 :: a14 :: a15 :: a16 :: a17 :: a18 :: a19 :: some v :: r) H) : gName 20 v (a0 :: a1 :: a2 :: a3 :: a4 :: a5 :: a6 :: a7 :: a8 :: a9 :: a10 :: a11 :: a12 :: a13 :: a14 :: a15 :: a16 :: a17 :: a18 :: a19 :: a20 :: r) H N := h
theorem g21 {a0 a1 a2 a3 a4 a5 a6 a7 a8 a9 a10 a11 a12 a13 a14 a15 a16 a17 a18 a19 a20 a21 : Option V} {r : St} {N : St → Hp → Prop} (h : N (a0 :: a1 :: a2 :: a3 :: a4 :: a5 :: a6 :: a7 :: a8 :: a9 :: a10 :: a11 :: a12 :: a13 :: a14 :: a15 :: a16 :: a17 :: a18 :: a19 :: a20 :: some v :: r) H) : gName 21 v (a0 :: a1 :: a2 :: a3 :: a4 :: a5 :: a6 :: a7 :: a8 :: a9 :: a10 :: a11 :: a12 :: a13 :: a14 :: a15 :: a16 :: a17 :: a18 :: a19 :: a20 :: a21 :: r) H N := h
theorem g22 {a0 a1 a2 a3 a4 a5 a6 a7 a8 a9 a10 a11 a12 a13 a14 a15 a16 a17 a18 a19 a20 a21 a22 : Option V} {r : St} {N : St → Hp → Prop} (h : N (a0 :: a1 :: a2 :: a3 :: a4 :: a5 :: a6 :: a7 :: a8 :: a9 :: a10 :: a11 :: a12 :: a13 :: a14 :: a15 :: a16 :: a17 :: a18 :: a19 :: a20 :: a21 :: some v :: r) H) : gName 22 v (a0 :: a1 :: a2 :: a3 :: a4 :: a5 :: a6 :: a7 :: a8 :: a9 :: a10 :: a11 :: a12 :: a13 :: a14 :: a15 :: a16 :: a17 :: a18 :: a19 :: a20 :: a21 :: a22 :: r) H N := h
theorem g23 {a0 a1 a2 a3 a4 a5 a6 a7 a8 a9 a10 a11 a12 a13 a14 a15 a16 a17 a18 a19 a20 a21 a22 a23 : Option V} {r : St} {N : St → Hp → Prop} (h : N (a0 :: a1 :: a2 :: a3 :: a4 :: a5 :: a6 :: a7 :: a8 :: a9 :: a10 :: a11 :: a12 :: a13 :: a14 :: a15 :: a16 :: a17 :: a18 :: a19 :: a20 :: a21 :: a22 :: some v :: r) H) : gName 23 v (a0 :: a1 :: a2 :: a3 :: a4 :: a5 :: a6 :: a7 :: a8 :: a9 :: a10 :: a11 :: a12 :: a13 :: a14 :: a15 :: a16 :: a17 :: a18 :: a19 :: a20 :: a21 :: a22 :: a23 :: r) H N := h
theorem i_gTup {n : Nat} {tg : TGs} {a : Addr} {xs : List V} {N : St → Hp → Prop} (hq : SqT K H a xs) (hl : xs.length = n) (h : tg xs σ H N) : gTup K n tg (.ref a) σ H N := ⟨a, xs, rfl, hq, hl, h⟩
theorem i_gCons {tg : TG} {us : TGs} {r : List V} {N : St → Hp → Prop} (h : tg v σ H fun σ' H' => us r σ' H' N) : gCons tg us (v :: r) σ H N := ⟨v, r, rfl, h⟩
theorem i_gNil {N : St → Hp → Prop} (h : N σ H) : gNil [] σ H N := ⟨rfl, h⟩
/-- tests -/
theorem iteD {p : Prop} [Decidable p] (h1 : p → A) (h2 : ¬ p → B) : if decide p = true then A else B := by
  by_cases h : p
  · rw [if_pos (decide_eq_true h)]; exact h1 h
  · rw [if_neg (by simp [h])]; exact h2 h
theorem iteDp {p : Prop} [Decidable p] (hp : p) (h : A) : if decide p = true then A else B := by rw [if_pos (decide_eq_true hp)]; exact h
theorem iteDn {p : Prop} [Decidable p] (hp : ¬ p) (h : B) : if decide p = true then A else B := by rw [if_neg (by simp [hp])]; exact h
theorem iteNp {p : Prop} [Decidable p] (hp : p) (h : B) : if (!decide p) = true then A else B := by rw [if_neg (by simp [hp])]; exact h
theorem iteNT (h : B) : if (!true) = true then A else B := iteF h
theorem iteNF (h : A) : if (!false) = true then A else B := iteT h
theorem iteDe {α : Type} {z : α} [Decidable (z = z)] (h : A) : if decide (z = z) = true then A else B := iteDp rfl h
/-- attributes -/
theorem lk_hd {f : Str} {r : List (Str × V)} : List.lookup f ((f, v) :: r) = some v := by simp [List.lookup]
theorem lk_tl {f g : Str} {r : List (Str × V)} {o : Option V} (h : ¬ f = g) (e : List.lookup f r = o) : List.lookup f ((g, v) :: r) = o := by
  have h' : (f == g) = false := by simp [h]
  simp [List.lookup, h', e]
theorem lk_nil {f : Str} : List.lookup f ([] : List (Str × V)) = none := rfl
theorem pf_hd {f : Str} {r : List (Str × V)} : putF f v ((f, x) :: r) = (f, v) :: r := by simp [putF]
theorem pf_tl {f g : Str} {r r' : List (Str × V)} (h : ¬ g = f) (e : putF f v r = r') : putF f v ((g, x) :: r) = (g, x) :: r' := by simp [putF, h, e]
theorem pf_nil {f : Str} : putF f v [] = [(f, v)] := rfl
/-- the heap -/
theorem upd_new {a c : Addr} {o o' : HO} (hn : H a = none) (h : H c = some o) : upd H a o' c = some o := by rw [upd_ne (ne_of_none h hn)]; exact h
theorem upd_oth {a c : Addr} {o o' : HO} (hn : c ≠ a) (h : H c = some o) : upd H a o' c = some o := by rw [upd_ne hn]; exact h
theorem same_upd {a : Addr} {o : HO} (hn : H a = none) : Same H (upd H a o) := fun _ _ h => upd_new hn h
theorem Same.tup {H H' : Hp} {a : Addr} {xs : List V} (e : Same H H') (h : SqT K H a xs) : SqT K H' a xs := by
  rcases h with (h | ⟨o, h⟩) | h
  · exact .inl (.inl (e _ _ h))
  · exact .inl (.inr ⟨o, e _ _ h⟩)
  · exact .inr h
theorem i_make {C : Addr} {sp : Sp} {dvs : List V} {E : XK} (h : tr σ H fun vs H1 => ∀ x dx, H1 x = none → H1 dx = none → dx ≠ x → sp (.ref x :: (vs ++ dvs)) (upd (upd H1 dx (.own x)) x (.ins C dx [])) (fun v H2 => v = .non ∧ Q (.ref x) H2) E) : tMake C sp dvs E tr σ H Q := h
theorem i_bm {T : String} {r : V → List V → Hp → VK → Prop} (h : ta σ H fun x H1 => tyV K T x H1 ∧ tr σ H1 fun xs H2 => r x xs H2 Q) : tBM K T r ta tr σ H Q := h
theorem i_bm0 {T : String} {r : V → List V → Hp → VK → Prop} (h : ta σ H fun x H1 => tyV K T x H1 ∧ r x [] H1 Q) : tBM0 K T r ta σ H Q := h
theorem i_tyL {p : Addr} {xs : List V} (h : H p = some (.lst xs)) (k : A) : tyV K "list" (.ref p) H ∧ A := ⟨.inl ⟨rfl, _, SqL.of h⟩, k⟩
theorem i_append {l : Addr} {xs : List V} (h : H l = some (.lst xs)) (hz : xs.length < sizeLine) (k : Q .non (upd H l (.lst (xs ++ [y])))) : rAppend (.ref l) [y] H Q := ⟨l, xs, y, rfl, rfl, h, hz, k⟩
theorem i_len {p : Addr} {ys : List V} {P : List V → Prop} (h : SqL K H p ys) (k : P ys) : ∃ p' ys', [V.ref p] = [V.ref p'] ∧ (SqL K H p' ys' ∨ SqT K H p' ys') ∧ P ys' := ⟨p, ys, rfl, .inl h, k⟩
theorem i_listof {p : Addr} {ys : List V} {P : List V → Prop} (h : SqL K H p ys) (k : P ys) : ∃ p' ys', [V.ref p] = [V.ref p'] ∧ (SqL K H p' ys' ∨ SqT K H p' ys') ∧ P ys' := ⟨p, ys, rfl, .inl h, k⟩
theorem i_ixL {p : Addr} {xs : List V} (h : SqL K H p xs) (e : atI xs i = some v) (k : Q v H) : rIxL K (.ref p) (.int i) H Q := ⟨p, xs, i, v, rfl, rfl, h, e, k⟩
theorem i_ixT {p : Addr} {xs : List V} (h : SqT K H p xs) (e : atI xs i = some v) (k : Q v H) : rIxT K (.ref p) (.int i) H Q := ⟨p, xs, i, v, rfl, rfl, h, e, k⟩
theorem i_slL {p : Addr} {xs : List V} {lo hi : Option Int} (h : SqL K H p xs) (k : ∀ q, H q = none → Q (.ref q) (upd H q (.lst (cutV xs lo hi)))) : rSlL K (.ref p) lo hi H Q := ⟨p, xs, rfl, h, k⟩
theorem cut_take {xs : List V} (n : Nat) : cutV xs none (some (n : Int)) = xs.take n := by
  unfold cutV
  rw [HT.sIx_none, HT.sIx_nat, List.drop_zero, Nat.sub_zero]
  rcases Nat.le_total n xs.length with h | h
  · rw [Nat.min_eq_left h]
  · rw [Nat.min_eq_right h, List.take_of_length_le (Nat.le_refl _), List.take_of_length_le h]
theorem i_for {wi : TI} {g : TG} {tb : TS} (h : wi σ H fun J H1 => ∃ W : Nat → Nat → St → Hp → Prop, (∃ m, W 0 m σ H1) ∧ ∀ i m σ H, W i m σ H →
    (J.stop i H ∧ D.nx σ H) ∨ (J.go i H ∧ ∃ N : St → Hp → Prop, (∀ σ' H', N σ' H' → ∃ m', m' < m ∧ W (i + 1) m' σ' H') ∧ ∀ x H', J.yld i H x H' → g x σ H' fun σ2 H2 => tb { D with nx := N, ct := N, bk := D.nx } σ2 H2)) : tFor wi g tb D σ H := h
theorem i_iList {R : It → Hp → Prop} (h : ta σ H fun x H1 => ∃ a, x = .ref a ∧ (∃ xs, SqL K H1 a xs) ∧ R (Itl K a) H1) : iList K ta σ H R := h
theorem i_iTup {R : It → Hp → Prop} (h : ta σ H fun x H1 => ∃ a, x = .ref a ∧ (∃ xs, SqT K H1 a xs) ∧ R (Itt K a) H1) : iTup K ta σ H R := h
theorem i_iRng1 {R : It → Hp → Prop} (h : tr σ H fun vs H1 => ∃ j : Int, vs = [.int j] ∧ -(2 ^ 62) ≤ j ∧ j < 2 ^ 62 ∧ R (Itr 0 j.toNat) H1) : iRng1 tr σ H R := h
theorem i_isi {n m : String} {k : Bool} {P : Bool → Prop} (ty : TyOf K H x (.type n)) (e : PySem.W.kitOne K (.type n) (.type m) = some k) (h : P k) :
    ∃ x' cv t c k', [x, V.ty m] = [x', cv] ∧ RelV cv c ∧ (∀ u, RelV cv u → u = c) ∧ TyOf K H x' t ∧ PySem.W.kitOne K t c = some k' ∧ P k' := ⟨x, .ty m, .type n, .type m, k, rfl, rfl, fun _ r => r, ty, e, h⟩
theorem i_powC {k : Int} (hc : CPow i j) (e : i ^ j.toNat = k) (h : Q (.int k) H) : rPowC k (.int i) (.int j) H Q := ⟨i, j, rfl, rfl, hc, e, h⟩
theorem i_after (h : nx σ H) : After nx σ H := h
end
/-- what isinstance(x, int), isinstance(x, bool) say of a plain thing -/
def isIntV : V → Bool
  | .int _ => true
  | .bl _ => true
  | _ => false
def isBoolV : V → Bool
  | .bl _ => true
  | _ => false
def wholeV : V → Bool
  | .int _ => true
  | _ => false
theorem kit_int {K : PySem.W.Frag} {H : Hp} {x : V} {n : String} (ty : TyOf K H x (.type n)) : PySem.W.kitOne K (.type n) (.type "int") = some (isIntV x) := by
  cases ty <;> rfl
theorem kit_bool {K : PySem.W.Frag} {H : Hp} {x : V} {n : String} (ty : TyOf K H x (.type n)) : PySem.W.kitOne K (.type n) (.type "bool") = some (isBoolV x) := by
  cases ty <;> rfl
end L2
namespace SpanMath
/-- a span as it can come -/
structure Ok (x : Int × Int × Int) : Prop where
  l0 : 0 ≤ x.1
  w0 : 4294967296 ≤ x.2.1
  w1 : x.2.1 ≤ 1099511627776
  z : 5 ≤ x.2.2
end SpanMath
namespace SpanMath
/-- 256 ** k -/
def pw : Nat → Int
  | 0 => 1
  | k + 1 => pw k * 256
/-! ### numbers written by bytes -/
def lo : Nat → Int → List Int
  | 0, _ => []
  | k + 1, n => n % 256 :: lo k (n / 256)
def val (xs : List Int) : Int := xs.foldl (fun a b => a * 256 + b) 0
/-! ### the settled bytes -/
/-- how many bytes from the end a and b part in: the while of settled, n turns at most -/
def part : Nat → Int → Int → Nat
  | 0, _, _ => 0
  | n + 1, a, b => if a = b then 0 else part n (a / 256) (b / 256) + 1
end SpanMath
namespace SpanMath
abbrev Sn := Int × Int × Int
def sz (x : Sn) : Nat := x.2.2.toNat
/-- a span as it can come, within its bytes -/
structure OkS (x : Sn) : Prop where
  ok : Ok x
  top : x.1 + x.2.1 ≤ pw (sz x)
theorem OkS.sz {x : Sn} (h : OkS x) : ((sz x : Nat) : Int) = x.2.2 := by
  have := h.ok.z
  unfold SpanMath.sz
  omega
/-- y lies in x: r bytes more -/
structure Sub (x y : Sn) (r : Nat) : Prop where
  z : sz y = sz x + r
  l : x.1 * pw r ≤ y.1
  h : y.1 + y.2.1 ≤ (x.1 + x.2.1) * pw r
/-! ### settled -/
/-! ### told -/
/-- the first block of e numbers behind l -/
def blk (l e : Int) : Int := (l + e - 1) / e
def hold (l w : Int) (k : Nat) : Prop := (blk l (pw k) + 1) * pw k ≤ l + w
instance (l w : Int) (k : Nat) : Decidable (hold l w k) := inferInstanceAs (Decidable ((blk l (pw k) + 1) * pw k ≤ l + w))
/-! ### the cost -/
end SpanMath
/-! A COMPREHENSION of lists: one clause, a plain name, no test, no name of the def around -/
namespace L2
open PySem PySem.Spec PyProof.Rows
def tCompB (J : It) (te : TE) (D : Addr) (R : Hp → Prop) (H1 : Hp) : Prop := ∃ W : Nat → Nat → Hp → Prop, (∃ m, W 0 m (upd H1 D (.lst []))) ∧
  ∀ i m H2, W i m H2 → (J.stop i H2 ∧ R H2) ∨ (J.go i H2 ∧ ∀ x H3, J.yld i H2 x H3 → te [some x] H3 fun y H4 => ∃ ys, H4 D = some (.lst ys) ∧ ys.length < sizeLine ∧ ∃ m', m' < m ∧ W (i + 1) m' (upd H4 D (.lst (ys ++ [y]))))
def tComp (wi : TI) (te : TE) : TE := fun σ H Q => wi σ H fun J H1 => ∀ D, H1 D = none → tCompB J te D (fun H2 => Q (.ref D) H2) H1
section
variable {X : Cx} {iter elt : Expr} {x : Str} {px pos : Pos} {scope : Scope} {te : TE} {wi : TI} {pins : List (Addr × Obj)} {σ : St}
theorem thnF {α : Type} {t : Sem α} {Q Q' : α → Shared → Prop} {M : Model} {A : Around} {E : Value → Shared → Prop} {s : Shared} (h : wpAny M A t Q (fun _ _ => False) s) (hQ : ∀ a s, Q a s → Q' a s) : wpAny M A t Q' E s := wpAny_mono h hQ fun _ _ z => z.elim
theorem i_comp {wi : TI} {te : TE} {H : Hp} {Q : VK} (h : wi σ H fun J H1 => ∀ D, H1 D = none → tCompB J te D (fun H2 => Q (.ref D) H2) H1) : tComp wi te σ H Q := h
/-- over a list that the block leaves as it is -/
def cW (n : Nat) (Pv : Nat → Hp → Prop) (i m : Nat) (H : Hp) : Prop := m = n - i ∧ i ≤ n ∧ Pv i H
theorem comp_next {n i : Nat} {Pv : Nat → Hp → Prop} {D : Addr} {ys : List V} {y : V} {H4 : Hp} (hD : H4 D = some (.lst ys)) (hl : ys.length < sizeLine) (hi : i < n) (p : Pv (i + 1) (upd H4 D (.lst (ys ++ [y])))) :
    ∃ ys, H4 D = some (.lst ys) ∧ ys.length < sizeLine ∧ ∃ m', m' < n - i ∧ cW n Pv (i + 1) m' (upd H4 D (.lst (ys ++ [y]))) := ⟨ys, hD, hl, n - (i + 1), by omega, rfl, hi, p⟩
end
end L2
namespace L2
open PySem
def notStar : Expr → Bool
  | .Starred _ _ => false
  | _ => true
theorem star_ok {e : Expr} {es : List Expr} {env : Env} (h : notStar e = true) : starEach (e :: es) env = (false, eval e env) :: starEach es env := by
  cases e <;> first | rfl | cases h
end L2
/-! ERRORS of one's own over the layer: raised in a def, passed on by defs, taken by a try with one clause -/
namespace L2
open PySem PySem.Spec PyProof.Rows
/-- what the fragment tells of an own error class without methods -/
structure XCls (K : PySem.W.Frag) (C : Addr) : Prop where
  hd : PySem.W.hasDictIn K C = true
  ga : PySem.W.findIn K (.ref C) "__getattribute__" = some (some (.builtin "BaseException.__getattribute__"))
  gt : PySem.W.findIn K (.ref C) "__getattr__" = some none
  ca : PySem.W.findIn K (.ref C) "__class__" = some (some (.builtin "object.__class__"))
  gg : PySem.W.specialIn K (.builtin "object.__class__") "__get__" = some (some (.builtin "getset_descriptor.__get__"))
  tk : PySem.W.takesIn K (.builtin "object.__class__") = some true
  mo : PySem.W.mroIn K C (.type "object") = some true
  mb : PySem.W.mroIn K C (.type "BaseException") = some true
theorem XCls.cl {K : PySem.W.Frag} {C : Addr} (c : XCls K C) : (PySem.W.clsIn K C).isSome = true := by
  obtain ⟨cd, h, _⟩ := PySem.W.any_some c.hd
  rw [h]; rfl
/-- an error of a class is taken by a clause of its base -/
theorem exm_mk {K : PySem.W.Frag} {C D : Addr} (h0 : PySem.W.subIn K (.ref D) (.type "BaseException") = some true) (h1 : PySem.W.hasDictIn K D = true) (h2 : PySem.W.typeIn K (.ref D) = some (.type "type"))
    (h3 : PySem.W.subIn K (.ref C) (.ref D) = some true) : PySem.W.exmOne K (.ref C) (.ref D) = some true := by
  obtain ⟨cd, h, _⟩ := PySem.W.any_some h1
  unfold PySem.W.exmOne PySem.W.kitCls
  rw [h0]
  dsimp only
  rw [h, h2, h3]
  rfl
/-- an error of the class at C stands at x -/
def ExAt (x C : Addr) (h : Heap) : Prop := ∃ ox, h.get? x = some ox ∧ ox.cls = .ref C
section
variable {prog : Program} {w : World} {A : Around} {E : Value → Shared → Prop} {s : Shared} {K : PySem.W.Frag} {x C : Addr}
theorem ExAt.type {M : Model} {h : Heap} (I : ExAt x C h) : PySem.W.Looks M h (typeOf (.ref x)) (.ref C) := by
  obtain ⟨ox, h1, h2⟩ := I
  exact h2 ▸ (PySem.W.Looks.ld h1).andThen .now
theorem XCls.finds (c : XCls K C) {M : Model} {h : Heap} (X : K.In h) : PySem.W.Looks M h (Builtin.ObjectAttr.find (.ref x) (.ref C) "__class__") (.bind (.builtin "getset_descriptor.__get__") (.builtin "object.__class__")) := by
  have L1 := PySem.W.looks_findIn (M := M) X c.ca
  have L2 : PySem.W.Looks M h (Builtin.ObjectAttr.getOf (some (.builtin "object.__class__"))) (some (.builtin "getset_descriptor.__get__")) := PySem.W.looks_specialIn X c.gg
  have L3 : PySem.W.Looks M h (Builtin.ObjectAttr.dataDescriptor? (some (.builtin "object.__class__")) (some (.builtin "getset_descriptor.__get__"))) (some (.builtin "getset_descriptor.__get__", .builtin "object.__class__")) := (PySem.W.looks_takesIn X c.tk).andThen .now
  exact L1.andThen (L2.andThen (L3.andThen (PySem.W.Looks.tag .now)))
theorem exc_get {R : Result → Shared → Prop} {tp : Value} (c : XCls K C) (X : K.In s.heap) (I : ExAt x C s.heap) (h : R (.ok (.ret (.ref C))) s) :
    codeAny (model prog w) A (.call (.builtin "getset_descriptor.__get__") ⟨[.builtin "object.__class__", .ref x, tp], []⟩) R s := by
  obtain ⟨hh, g, dr, t, os⟩ := s
  have T0 := I.type (M := model prog w)
  have T1 := PySem.W.looks_mroIn (M := model prog w) X c.mo
  refine codeAny_call_builtin PySem.W.KF.slot_gs.plain PySem.W.KF.entry_gs (PySem.W.KF.slot_gs.check _ _ _ _ _ _ _ _ PySem.W.KF.type_class (PySem.W.KF.args_gs _ _ _) ?_)
  unfold Builtin.«getset_descriptor.__get__» Builtin.Getset_descriptor.descrGet
  rw [PySem.W.dga_obj]
  refine wpAny_bind (wpAny_pure ?_)
  unfold Builtin.Getset_descriptor.descrGetter Builtin.Getset_descriptor.descrCheckInstance Builtin.Getset_descriptor.descrNameAndClass isInstance
  simp only [PySem.W.KF.owner_class]
  repeat lk
  refine ⟨Code.quiet_builtin _ (by decide +kernel), codeAny_builtin PySem.W.KF.entry_class ?_⟩
  unfold Builtin.«object.__class__» shownTypeOf
  repeat lk
  exact h
theorem exc_class (c : XCls K C) {Q : Option Value → Shared → Prop} (X : K.In s.heap) (I : ExAt x C s.heap) (h : Q (some (.ref C)) { s with toks := s.toks + 1 }) :
    wpAny (model prog w) A (getAttr? (.ref x) "__class__") Q E s := by
  obtain ⟨hh, g, d, t, os⟩ := s
  have L0 := I.type (M := model prog w)
  have L1 := PySem.W.looks_findIn (M := model prog w) X c.ga
  have L2 := PySem.W.looks_findIn (M := model prog w) X c.gt
  have L3 : PySem.W.Looks (model prog w) hh (isInstance (.ref x) (.type "BaseException")) true := L0.andThen (PySem.W.looks_mroIn X c.mb)
  have L4 := c.finds (x := x) (M := model prog w) X
  unfold getAttr? getAttrBy? getAttrBy
  refine wpAny_bind (wpAny_mkText (wpAny_bind (wpAny_attempt (wpAny_holding (wpAny_bind (L0.at (wpAny_bind (L1.at ?_))))))))
  have e0 : (onTheHeap (Value.ref C) && Value.builtin "BaseException.__getattribute__" == Value.builtin "object.__getattribute__") = false := by
    have z : (Value.builtin "BaseException.__getattribute__" == Value.builtin "object.__getattribute__") = false := by decide +kernel
    rw [z]; rfl
  dsimp only
  rw [e0]
  unfold getAttrByItsOwn hookBefore
  rw [if_neg Bool.false_ne_true]
  refine wpAny_bind ?_
  rw [if_pos (show onTheHeap (.ref C) = true from rfl)]
  refine L2.at ?_
  refine wpAny_bind (wpAny_attempt (wpAny_holding ?_))
  unfold callGetattribute
  rw [if_neg (by simp)]
  unfold boundAndCalled
  rw [F.attr_ValueError.ga.bind (.ref x)]
  refine wpAny_bind (wpAny_pure ?_)
  refine wpAny_call (codeAny_call_builtin F.attr_ValueError.ga.plain F.entry_bexc_ga ?_)
  have hk : builtinKind "BaseException.__getattribute__" = some .slot := by decide +kernel
  have hsplit : splitId "BaseException.__getattribute__" = some ("BaseException", "__getattribute__") := by decide +kernel
  have ha := F.args_bexc_ga (.ref x) (.str "__class__" t)
  simp only [checkBuiltinCall, hk, hsplit, List.cons_append, List.nil_append]
  refine wpAny_bind (L3.at ?_)
  rw [if_neg (by simp)]
  refine wpAny_of_eq ha ?_
  unfold Builtin.«object.__getattribute__»
  have e1 : slotArgs "__getattribute__" 1 ⟨[Value.ref x, Value.str "__class__" t], []⟩ = pure (Value.ref x, [Value.str "__class__" t]) := by kernel_rfl
  have e2 : Builtin.ObjectAttr.attrName (Value.str "__class__" t) = pure "__class__" := by kernel_rfl
  refine wpAny_bind (wpAny_of_eq e1 ?_)
  dsimp only
  refine wpAny_bind (wpAny_of_eq e2 ?_)
  refine wpAny_bind (L0.at ?_)
  refine wpAny_bind (L4.at ?_)
  dsimp only
  show wpAny _ _ (holding [_] (call _ [_, _, _]) >>= ret) _ _ _
  refine wpAny_bind (wpAny_holding (wpAny_call (exc_get (s := ⟨hh, g, d, t + 1, os⟩) c X I ?_)))
  refine wpAny_pure ?_
  exact PySem.W.handed_on rfl (wpAny_pure h)
theorem exc_kit (c : XCls K C) : PySem.W.KitX K (.ref x) (.ref C) (ExAt x C) where
  ty := fun _ _ _ I => I.type
  it := fun M h X _ => by
    obtain ⟨cd, hc⟩ := Option.isSome_iff_exists.mp c.cl
    unfold PySem.W.clsIn at hc
    split at hc
    · rename_i there
      intro A' Q' E' s' k q
      unfold isType loadHead
      exact wpAny_bind (wpAny_loadPart (k _ _ (X _ _ there)) (wpAny_pure q))
    · cases hc
  ne := fun h tp dd its n sl X htp => by
    obtain ⟨cd, hc⟩ := Option.isSome_iff_exists.mp c.cl
    refine Bool.eq_false_iff.mpr fun q => ?_
    obtain rfl : C = tp := Value.ref.inj (beq_iff_eq.mp q)
    unfold PySem.W.clsIn at hc
    split at hc
    · rename_i there
      cases (X _ _ there).symm.trans htp
    · cases hc
  ca := fun X I k => exc_class c X I k
end

/-! ### isinstance of an error -/
section
variable {X : Cx}
theorem exc_obj {pins : List (Addr × Obj)} {σ : St} {H : Hp} {s : Shared} {x C : Addr} (I : Inv X pins σ H s) (e : H x = some (.ext (ExAt x C))) : ExAt x C s.heap := (show ObjOk X.prog X.w H s.heap x (.ext (ExAt x C)) from I.hok x _ e).1
/-- isinstance(e, c) -/
def rIsX (K : PySem.W.Frag) : List V → Hp → VK → Prop := fun xs H Q => ∃ x cv C c k, xs = [.ref x, cv] ∧ RelV cv c ∧ (∀ u, RelV cv u → u = c) ∧ H x = some (.ext (ExAt x C)) ∧ XCls K C ∧ PySem.W.kitOne K (.ref C) c = some k ∧ Q (.bl k) H
theorem call_isX : CallR X (.builtin "isinstance") (rIsX X.K) := by
  intro pins s σ H xs us Q I r h
  obtain ⟨x, cv, C, c, k, rfl, _, hc, ex, cl, e, q⟩ := h
  obtain ⟨u, u', rfl, rx, rc⟩ := vals2 r
  obtain rfl := hc u' rc
  obtain rfl : u = Value.ref x := rx
  exact PySem.W.kia_one (exc_kit cl) I.kIn (exc_obj I ex) e (fun z => nomatch z) fun tk => ⟨.bl k, H, I.tok tk, rfl, q⟩
end
end L2
namespace L2
open PySem PySem.Spec PyProof.Rows
/-! ### a record of ours that nobody else knows -/
theorem ObjOk.there {P : Program} {w : World} {H : Hp} {h : Heap} {a : Addr} {o : HO} (x : ObjOk P w H h a o) : ∃ ob, h.get? a = some ob := by
  cases o with
  | lst xs => obtain ⟨_, _, _, _, e⟩ := x; exact ⟨_, e⟩
  | tup xs => obtain ⟨_, _, _, ob, e, _⟩ := x; exact ⟨_, e⟩
  | dK kvs => obtain ⟨_, _, _, _, ob, _, _, e, _⟩ := x; exact ⟨_, e⟩
  | dT kvs => obtain ⟨_, _, _, _, ob, _, _, e, _⟩ := x; exact ⟨_, e⟩
  | set S n => obtain ⟨ob, _, _, _, e, _⟩ := x; exact ⟨_, e⟩
  | ins C dx fs => obtain ⟨_, _, _, e, _⟩ := x; exact ⟨_, e⟩
  | own y => exact x
  | xd fs => obtain ⟨_, ⟨_, _, _, e, _⟩, _⟩ := x; exact ⟨_, e⟩
  | rng lo hi => obtain ⟨_, _, _, e⟩ := x; exact ⟨_, e⟩
  | frz ob u => obtain ⟨e, _⟩ := x; exact ⟨_, e⟩
  | tbl ps => exact ⟨_, (show h.get? a = some _ from x)⟩
  | met f y => exact ⟨_, (show h.get? a = some _ from x)⟩
  | ext φ => obtain ⟨_, e, _⟩ := x; exact e
theorem HOk.none_of {P : Program} {w : World} {H : Hp} {h : Heap} {a : Addr} (x : HOk P w H h) (e : h.get? a = none) : H a = none := by
  cases q : H a with
  | none => rfl
  | some u =>
    obtain ⟨ob, z⟩ := (x a u q).there
    rw [e] at z
    cases z
def Fy (X : Cx) (pins : List (Addr × Obj)) (H : Hp) (b : Addr) : Prop :=
  H b = none ∧ b ≠ X.env.locals ∧ b ∉ X.fs ∧ (b ∈ X.ex ∨ X.s₀.heap.get? b = none) ∧ (∀ y c, X.env.cells.lookup y = some c → c ≠ b) ∧ ∀ p ∈ X.pn ++ pins, p.1 ≠ b
section
variable {X : Cx} {pins : List (Addr × Obj)} {σ : St} {H H' : Hp} {s : Shared} {b x T : Addr} {h' : Heap}
theorem fy_new (I : Inv X pins σ H s) (hb : s.heap.get? b = none) (hn : H' b = none) : Fy X pins H' b := by
  refine ⟨hn, ?_, ?_, ?_, ?_, ?_⟩
  · rintro rfl
    obtain ⟨_, ⟨_, _, _, e, _⟩, _⟩ := I.loc
    rw [hb] at e; cases e
  · intro z
    obtain ⟨_, o, e, _⟩ := I.funs.mem z
    rw [hb] at e; cases e
  · by_cases hx : b ∈ X.ex
    · exact .inl hx
    · refine .inr ?_
      cases q : X.s₀.heap.get? b with
      | none => rfl
      | some o =>
        obtain ⟨_, e⟩ := I.base.there b o q hx
        rw [hb] at e; cases e
  · rintro y c e rfl
    obtain ⟨_, _, q, _⟩ := I.cell y c e
    rw [hb] at q; cases q
  · intro p hp z
    have q := (I.pin p hp).1
    rw [z, hb] at q; cases q
/-- nothing but the records at x and T, and slots of the frames that run, has changed -/
theorem Inv.fly (I : Inv X pins σ H s) (hx : Fy X pins H x) (hT : Fy X pins H T)
    (keep : ∀ b o, b ≠ x → b ≠ T → b ∉ frs X.stack → s.heap.get? b = some o → h'.get? b = some o)
    (slot : ∀ b o, b ∈ frs X.stack → s.heap.get? b = some o → ∃ sl, h'.get? b = some { o with slots := sl }) : Inv X pins σ H { s with heap := h' } := by
  have ent : ∀ {y b o}, Fy X pins H y → X.s₀.heap.get? b = some o → b ∉ X.ex → b ≠ y := fun {y b o} hy e he z => by
    subst z
    rcases hy.2.2.2.1 with q | q
    · exact he q
    · rw [e] at q; cases q
  have any : ∀ b o, b ≠ x → b ≠ T → s.heap.get? b = some o → ∃ sl, h'.get? b = some { o with slots := sl } := fun b o h1 h2 e => by
    by_cases z : b ∈ frs X.stack
    · exact slot b o z e
    · exact ⟨o.slots, keep b o h1 h2 z e⟩
  have cellK : ∀ y c, X.env.cells.lookup y = some c → ∀ v, s.heap.IsCell c v → h'.IsCell c v := fun y c e v ⟨o, ho, hd⟩ => by
    obtain ⟨sl, q⟩ := any c o (hx.2.2.2.2.1 y c e) (hT.2.2.2.2.1 y c e) ho
    exact ⟨_, q, hd⟩
  refine ⟨I.ok, I.os, I.bare, ⟨fun b o e n hb he => ?_, fun b o e n hb he => ?_, I.base.free, fun b o e he => ?_, I.base.tups, I.base.frzs, I.base.tbls⟩, ?_, fun y c e => ?_, I.free, I.freeC, fun p hp => ?_, fun b u e => ?_, I.len⟩
  · refine keep b o (ent hx e he) (ent hT e he) (fun z => ?_) (I.base.keep b o e n hb he)
    rcases List.mem_cons.mp (I.stkSub b z) with q | q
    · exact absurd q (Nat.ne_of_lt (Nat.lt_of_lt_of_le (Heap.lt_size e) I.ok.above))
    · exact hb q
  · obtain ⟨sl, e1⟩ := I.base.slot b o e n hb he
    obtain ⟨sl', e2⟩ := any b _ (ent hx e he) (ent hT e he) e1
    exact ⟨sl', e2⟩
  · obtain ⟨o', e1⟩ := I.base.there b o e he
    obtain ⟨sl', e2⟩ := any b _ (ent hx e he) (ent hT e he) e1
    exact ⟨_, e2⟩
  · obtain ⟨m, hn, hl⟩ := I.loc
    refine ⟨m, ?_, fun i y v e1 e2 e3 => ?_⟩
    · obtain ⟨o, es, ep, ho, r⟩ := hn
      obtain ⟨sl, q⟩ := any _ o (Ne.symm hx.2.1) (Ne.symm hT.2.1) ho
      exact ⟨_, es, ep, q, r⟩
    · obtain ⟨u, r, l⟩ := hl i y v e1 e2 e3
      refine ⟨u, r, ?_⟩
      rcases l with l | ⟨k, c, e, z⟩
      · exact .inl l
      · exact .inr ⟨k, c, e, cellK y c e _ z⟩
  · obtain ⟨v, z⟩ := I.cell y c e
    exact ⟨v, cellK y c e v z⟩
  · obtain ⟨e, n, ne, nf, d⟩ := I.pin p hp
    refine ⟨keep p.1 p.2 (hx.2.2.2.2.2 p hp) (hT.2.2.2.2.2 p hp) (fun z => ?_) e, n, ne, nf, d⟩
    rcases List.mem_cons.mp (I.stkSub _ z) with q | q
    · exact ne q
    · exact nf q
  · have tr : ∀ c v, H c = some v → c ≠ x ∧ c ≠ T ∧ c ∉ frs X.stack := fun c v q =>
      ⟨fun z => (by rw [z, hx.1] at q; cases q), fun z => (by rw [z, hT.1] at q; cases q), fun z => (by rw [I.stkFree c z] at q; cases q)⟩
    refine (I.hok b u e).stay (fun c v hc q => ?_) (fun _ q => q) fun _ _ q => q
    obtain ⟨z1, z2, z3⟩ : c ≠ x ∧ c ≠ T ∧ c ∉ frs X.stack := by
      rcases hc with rfl | hc
      · exact tr _ _ e
      · exact tr _ _ hc
    exact keep c v z1 z2 z3 q
/-- the error at x of the class C, with the record of its way at T -/
def Trd (h : Heap) (x T : Addr) (C fl : Value) : Prop :=
  ∃ oe vs oT ts a0, h.get? x = some oe ∧ (oe.cls = C ∧ vs[0]? = some a0) ∧ oe.data = .fields vs ∧ vs[1]? = some (.ref T) ∧ T ≠ x ∧ h.get? T = some oT ∧ oT.data = .fields ts ∧ ts[3]? = some fl
/-- all but the error, the record of its way, the frames -/
def hid (s : Shared) (X : Cx) (x T : Addr) : Heap := PySem.W.hideAll s.heap (x :: T :: frs X.stack)
theorem hid_in : (hid s X x T).StaysIn s.heap := fun _ _ e => PySem.W.of_hideAll _ e
theorem hid_x : (hid s X x T).get? x = none := PySem.W.hideAll_none _ (.head _)
theorem hid_T : (hid s X x T).get? T = none := PySem.W.hideAll_none _ (.tail _ (.head _))
theorem hid_fr (I : Inv X pins σ H s) : s.heap.FunFrames (hid s X x T) X.stack :=
  PySem.W.funFrames_hide I.stack fun env he a ha => .tail _ (.tail _ (List.mem_filterMap.mpr ⟨env, he, ha⟩))
theorem trd_at {C fl : Value} (t : Trd s.heap x T C fl) : ∃ a0, s.heap.TracedAtW (hid s X x T) x C a0 fl := by
  obtain ⟨oe, vs, oT, ts, a0, h1, h2, h3, h4, h5, h6, h7, h8⟩ := t
  exact ⟨a0, oe, vs, T, oT, ts, h1, h2, h3, h4, hid_T, h5, h6, h7, h8⟩
theorem fly_after {C a0 fl : Value} (I : Inv X pins σ H s) (hx : Fy X pins H x) (hT : Fy X pins H T) (k1 : (hid s X x T).StaysIn h') (k2 : h'.FunFrames (hid s X x T) X.stack) (k3 : h'.TracedAtW (hid s X x T) x C a0 fl)
    (k4 : ∀ b o, s.heap.get? b = some o → (∀ vs, o.data ≠ .fields vs) → ∃ sl, h'.get? b = some { o with slots := sl }) :
    Inv X pins σ H { s with heap := h' } ∧ ∃ T', Fy X pins H T' ∧ Trd h' x T' C fl := by
  refine ⟨I.fly hx hT (fun b o n1 n2 n3 e => k1 b o (PySem.W.hideAll_get _ e fun z => ?_)) fun b o hb e => ?_, ?_⟩
  · rcases List.mem_cons.mp z with z | z
    · exact n1 z
    · rcases List.mem_cons.mp z with z | z
      · exact n2 z
      · exact n3 z
  · obtain ⟨_, o', e', nf⟩ := I.stack.mem hb
    rw [e] at e'; cases e'
    exact k4 b o e nf
  · obtain ⟨oe, vs, T', oT, ts, h1, h2, h3, h4, h5, h6, h7, h8, h9⟩ := k3
    refine ⟨T', ?_, oe, vs, oT, ts, a0, h1, h2, h3, h4, h6, h7, h8, h9⟩
    by_cases q : T' = T
    · rw [q]; exact hT
    · cases e : s.heap.get? T' with
      | none => exact fy_new I e (I.hok.none_of e)
      | some o =>
        have z : T' ∈ frs X.stack := Classical.byContradiction fun z => by
          have := PySem.W.hideAll_get (x :: T :: frs X.stack) e (fun m => by
            rcases List.mem_cons.mp m with m | m
            · exact h6 m
            · rcases List.mem_cons.mp m with m | m
              · exact q m
              · exact z m)
          rw [show (PySem.W.hideAll s.heap (x :: T :: frs X.stack)).get? T' = none from h5] at this
          cases this
        obtain ⟨_, o', e', nf⟩ := k2.mem z
        rw [h7] at e'; cases e'
        exact absurd h8 (nf _)
end

/-! ### how an error leaves a call -/
def CXe (P : Program) (w : World) : CXT := fun outer H s E e s' => ∃ x T C H', e = .ref x ∧ s'.os = s.os ∧ AllBare s'.gens ∧ Un (frs outer) [] H H' s.heap s'.heap ∧ HOk P w H' s'.heap ∧
  (H' x = none ∧ s.heap.get? x = none) ∧ (H' T = none ∧ s.heap.get? T = none) ∧ Trd s'.heap x T C .none ∧ E C none H'
/-- an error that comes to this body reaches what it wants -/
def Catch (X : Cx) (Ex : St → XK) : Prop := ∀ (pins : List (Addr × Obj)) (σ : St) (H : Hp) (s' : Shared) (x T : Addr) (C : Value), Inv X pins σ H s' → Fy X pins H x → Fy X pins H T → Trd s'.heap x T C .none → Ex σ C none H → X.xe (.ref x) s'
theorem catch_fn {P : Program} {w : World} {K : PySem.W.Frag} {mg : Str → Option Value} {base : Heap} {N : List Str} {qual : Str} {scope : Scope} {f : Addr} {cd : Value} {A : Around} {outer : List Env} {s : Shared} {H : Hp} {E : XK} :
    Catch (cxOf (CXe P w) P w K mg base N qual scope f cd A outer s H E) (fun _ => E) := by
  intro pins σ H1 s' x T C I hx hT tr q
  show wpAny _ _ (leaving _ _) _ _ _
  obtain ⟨a0, ta⟩ := trd_at (X := cxOf (CXe P w) P w K mg base N qual scope f cd A outer s H E) tr
  refine wpAny_leaving_nextW (base := hid s' (cxOf (CXe P w) P w K mg base N qual scope f cd A outer s H E) x T) (L := s.heap.objs.size) I.ok.frames (hid_fr I) rfl ta hid_in hid_x fun h' ⟨k1, k2, k3, k4⟩ => ?_
  obtain ⟨I', T', hT', t'⟩ := fly_after I hx hT k1 k2 k3 k4
  have new : ∀ {b}, Fy (cxOf (CXe P w) P w K mg base N qual scope f cd A outer s H E) pins H1 b → H1 b = none ∧ s.heap.get? b = none := fun hb => ⟨hb.1, hb.2.2.2.1.resolve_left (by intro z; cases z)⟩
  exact ⟨x, T', C, H1, rfl, I'.os, I'.bare, I'.base, I'.hok, new hx, new hT', t', q⟩
/-- a new error, made and raised here -/
theorem raise_fn {P : Program} {w : World} {K : PySem.W.Frag} {mg : Str → Option Value} {base : Heap} {N : List Str} {qual : Str} {scope : Scope} {f : Addr} {cd : Value} {A : Around} {outer : List Env} {s : Shared} {H : Hp} {E : XK}
    {pins : List (Addr × Obj)} {σ : St} {H1 : Hp} {s1 : Shared} {h' : Heap} {x : Addr} {C : Value} {vs : List Value} (I : Inv (cxOf (CXe P w) P w K mg base N qual scope f cd A outer s H E) pins σ H1 s1) (m : Heap.MadeExcOf s1.heap h' x C vs) (q : E C none H1) :
    (cxOf (CXe P w) P w K mg base N qual scope f cd A outer s H E).xe (.ref x) { s1 with heap := h' } := by
  obtain ⟨t, he, _, _⟩ := m.there
  have hx : Fy (cxOf (CXe P w) P w K mg base N qual scope f cd A outer s H E) pins H1 x := fy_new I m.new (I.hok.none_of m.new)
  have I1 : Inv (cxOf (CXe P w) P w K mg base N qual scope f cd A outer s H E) pins σ H1 { s1 with heap := h' } := I.kept (t' := s1.toks) m.keeps
  show wpAny _ _ (leaving _ _) _ _ _
  refine wpAny_leaving_firstW (base := hid { s1 with heap := h' } (cxOf (CXe P w) P w K mg base N qual scope f cd A outer s H E) x x) (L := s.heap.objs.size) (a0 := .ref t) I1.ok.frames (hid_fr I1) rfl he hid_in hid_x rfl rfl rfl fun h'' ⟨k1, k2, k3, k4⟩ => ?_
  obtain ⟨I', T', hT', t'⟩ := fly_after I1 hx hx k1 k2 k3 k4
  have new : ∀ {b}, Fy (cxOf (CXe P w) P w K mg base N qual scope f cd A outer s H E) pins H1 b → H1 b = none ∧ s.heap.get? b = none := fun hb => ⟨hb.1, hb.2.2.2.1.resolve_left (by intro z; cases z)⟩
  exact ⟨x, T', C, H1, rfl, I'.os, I'.bare, I'.base, I'.hok, new hx, new hT', t', q⟩
end L2
namespace L2
open PySem PySem.Spec PyProof.Rows
/-! ### calls whose errors are wanted -/
def tCallE (sp : Sp) (dvs : List V) (Ex : St → XK) (t : TA) : TE := fun σ H Q => t σ H fun vs H1 => sp (vs ++ dvs) H1 Q (Ex σ)
def tMethE (C : Addr) (m : Str) (sp : Sp) (dvs : List V) (Ex : St → XK) (ta : TE) (t : TA) : TE := fun σ H Q => ta σ H fun x H1 => ∃ a dx fs, x = .ref a ∧ H1 a = some (.ins C dx fs) ∧ fs.lookup m = none ∧
  t σ H1 fun vs H2 => sp (x :: (vs ++ dvs)) H2 Q (Ex σ)
def tMakeE (C : Addr) (sp : Sp) (dvs : List V) (Ex : St → XK) (t : TA) : TE := fun σ H Q => t σ H fun vs H1 => ∀ x dx, H1 x = none → H1 dx = none → dx ≠ x →
  sp (.ref x :: (vs ++ dvs)) (upd (upd H1 dx (.own x)) x (.ins C dx [])) (fun v H2 => v = .non ∧ Q (.ref x) H2) (Ex σ)
section
variable {X : Cx} {k : Nat} {f C : Addr} {fd : FuncData} {ps : List Str} {sp : Sp} {dvs : List V} {ds : List Value} {Ex : St → XK} {x m : Str} {p pos apos : Pos} {e o : Expr} {es : List Expr} {ta : TE} {t : TA}
/-- the error that left a callee has come to this body -/
theorem Inv.came {pins : List (Addr × Obj)} {σ : St} {H : Hp} {s s' : Shared} {v : Value} (I : Inv X pins σ H s) (hc : Catch X Ex) (h : CXe X.prog X.w X.stack H s (Ex σ) v s') : X.xe v s' := by
  obtain ⟨y, T, D, H', rfl, os, bare, un, hok, hy, hT, tr, q⟩ := h
  exact hc pins σ H' s' y T D (I.call' os un hok bare fun b z => absurd z (by simp)) (fy_new I hy.2 hy.1) (fy_new I hT.2 hT.1) tr q
theorem run_fnE {pins : List (Addr × Obj)} {σ : St} {H : Hp} {s : Shared} {Q : VK} {us : List Value} {vs : List V} (F : FnOk X.prog X.w X.K X.mg X.base (CXe X.prog X.w) k f fd ps sp) (hr : Room k X.A) (hb : Binds X.K fd ps ds) (hd : Vals dvs ds) (hc : Catch X Ex)
    (I : Inv X pins σ H s) (r : Vals vs us) (h : sp (vs ++ dvs) H Q (Ex σ)) : wpAny (model X.prog X.w) X.A (call (.ref f) us) (EP X pins σ Q) X.xe s := by
  have r2 : Vals (vs ++ dvs) (us ++ ds) := r.append hd
  have hl : (us ++ ds).length = ps.length := by rw [← r2.length]; exact F.len _ _ _ _ h
  refine wpAny_call (codeAny_mono (F.run X.A X.stack s H ⟨us, []⟩ (us ++ ds) (vs ++ dvs) Q (Ex σ) hr I.env0 (hb s us I.kIn hl) r2 h) fun r s' hq => ?_)
  cases r with
  | error e => exact I.came hc hq
  | ok fl =>
    cases fl with
    | ret u => exact I.after hq
    | next => exact False.elim hq
    | brk => exact False.elim hq
    | cont => exact False.elim hq
theorem pe_callE (F : FnOk X.prog X.w X.K X.mg X.base (CXe X.prog X.w) k f fd ps sp) (hr : Room k X.A) (hg : Gl X x) (hm : X.mg x = some (.ref f)) (hk : PySem.W.keepIn X.K (.ref f) = true) (hb : Binds X.K fd ps ds) (hd : Vals dvs ds) (hc : Catch X Ex)
    (ha : PA X (e :: es) t) (hdb : (x == ("__debug__" : Str)) = false := by decide) (he : starEach (e :: es) X.env = (false, eval e X.env) :: starEach es X.env := by rfl) (hpl : (backTo pos (starEach es X.env)).any (·.1) = false := by rfl) :
    PE X (.Call (.Name x p) (e :: es) [] pos) (tCallE sp dvs Ex t) := by
  intro pins s σ H Q I h
  refine wpAny_Call_Name_kw (ld_glob I hg hm ?_ hdb)
  refine PySem.W.callWith_K (h₀ := X.base) I.ok.mod.kin hk (thn (ha pos pins s σ H _ I h) fun us s1 ⟨vs, H1, I1, r, q⟩ => ⟨I1.kIn, ?_⟩) he hpl
  exact run_fnE F hr hb hd hc I1 r q
theorem pe_methE {pl : Sem Bool} (he : PE X o ta) (c : Cls X.K C) (hm : Meth X.K C m f) (F : FnOk X.prog X.w X.K X.mg X.base (CXe X.prog X.w) k f fd ps sp) (hr : Room k X.A) (hb : Binds X.K fd ps ds) (hd : Vals dvs ds) (hc : Catch X Ex) (ha : PA X (e :: es) t)
    (hst : starEach (e :: es) X.env = (false, eval e X.env) :: starEach es X.env := by rfl) (hpl : (backTo pos (starEach es X.env)).any (·.1) = false := by rfl)
    (ht : eval (.Call (.Attribute o m apos) (e :: es) [] pos) X.env = (do
      let ov ← eval o X.env
      standAt apos.atName
      let (f, first) ← holding [ov] (getMethod ov m pl)
      callWith pos f first (backTo pos (starEach (e :: es) X.env)) (backToKw pos (keywordEach [] X.env))) := by rfl) :
    PE X (.Call (.Attribute o m apos) (e :: es) [] pos) (tMethE C m sp dvs Ex ta t) := by
  intro pins s σ H Q I h
  refine PySem.W.methodCall_KW (pl := pl) (thn (he pins s σ H _ I h) fun u s1 ⟨x, H1, I1, rx, a, dx, fs, ex, ea, l, q⟩ => ?_) ht
  subst ex
  obtain rfl : u = Value.ref a := rx
  refine getmeth_ok I1 ea c hm l ?_
  refine PySem.W.callWith_K (first := [.ref a]) (h₀ := X.base) I.ok.mod.kin hm.kp (thn (ha pos pins s1 σ H1 _ I1 q) fun us s2 ⟨vs, H2, I2, r, q2⟩ => ⟨I2.kIn, ?_⟩) hst hpl
  exact run_fnE (us := .ref a :: us) (vs := .ref a :: vs) F hr hb hd hc I2 (.cons rfl r) q2
end
theorem PS.nox {X : Cx} {st : Stmt} {t : TS} (h : PS X.nox st t) : PS X st t := fun pins s σ H D I hw =>
  wpAny_mono (h pins s σ H D (I.wish _) hw) (fun _ _ q => q.unwish) fun _ _ z => False.elim z
section
variable {P : Program} {w : World} {K : PySem.W.Frag} {mg : Str → Option Value} {base : Heap}
/-- no error comes -/
theorem catch_no {X : Cx} : Catch X (fun _ _ _ _ => False) := fun _ _ _ _ _ _ _ _ _ _ _ q => q.elim
/-- THE RULE for a def from which errors may come -/
theorem Fun.okE {x qual : Str} {st : Stmt} {f : Addr} {fd : FuncData} {N ps : List Str} {k : Nat} {sp : Sp} (F : Fun K x qual st f fd) (S : FnScope N ps (defScope st)) (len : ∀ vs H Q E, sp vs H Q E → vs.length = ps.length)
    (hbody : ∀ (cdv : Value) (A : Around) (outer : List Env) (s : Shared) (H : Hp) (vs : List V) (Q : VK) (E : XK), Room k (A.deeper (envOfC qual (defScope st) s.heap.objs.size f cdv)) → sp vs H Q E →
      ∃ t, PSs (cxOf (CXe P w) P w K mg base N qual (defScope st) f cdv A outer s H E) (defBody st) t ∧ t { nx := fun _ H' => Q .non H', rt := Q } (start N vs) H) : FnOk P w K mg base (CXe P w) (k + 1) f fd ps sp := by
  obtain ⟨oc, od, kV, doc, pm, an, cdv, ct, osl, rfl, lk, hcd⟩ := F.ex
  exact fn_of lk hcd S len fun A outer s H vs Q E hr hsp => hbody cdv A outer s H vs Q E hr hsp
end

/-! ### raise C(..) -/
abbrev bmV : List Value := [.type "ValueError", .type "Exception", .type "BaseException", .type "object"]
abbrev XMk (K : PySem.W.Frag) (C : Addr) : Prop := PySem.W.excIn K C bmV "ValueError.__new__" = true
theorem xobj_of {K : PySem.W.Frag} {h : Heap} {C : Addr} {bmB : List Value} {newId : String} (X : K.In h) (q : PySem.W.excIn K C bmB newId = true) :
    ∃ bm N nm qn bs hdct sn sub ab col dd k0 k1 k2 k3 k5 mN, h.get? C = some (excClassObj nm qn C N bs bm hdct sn sub ab col dd k0 k1 k2 k3 k5 newId) ∧ h.Ns N mN ∧ mN "__init__" = none ∧ OwnTail h bmB bm := by
  unfold PySem.W.excIn at q
  split at q
  · rename_i dd cd sl ho
    split at q
    · rename_i C' bm k0 k1 k2 k3 n k5 hm hs
      simp only [Bool.and_eq_true, beq_iff_eq, Bool.not_eq_true'] at q
      obtain ⟨⟨⟨⟨⟨rfl, rfl⟩, hdel⟩, ht⟩, hok⟩, hni⟩ := q
      obtain ⟨nm, bs, mro, ns, qn, hd, sn, sub, ab, col, del⟩ := cd
      dsimp only at hm hdel hok hni
      subst hm hdel
      obtain ⟨l⟩ := sl
      have hs : l = [k0, k1, k2, k3, some (.builtin n), k5] := hs
      subst hs
      exact ⟨bm, ns, nm, qn, bs, hd, sn, sub, ab, col, dd, k0, k1, k2, k3, k5, _, X _ _ ho, .of_isNs (PySem.W.isNs_of_in X hok), PySem.W.nsMap_none_of_in X hok hni, PySem.W.tail_of_in X ht⟩
    · cases q
  · cases q
def tRaise (E : XK) (C : Addr) (t : TA) : TS := fun _ σ H => t σ H fun vs H1 => vs.length ≤ sizeLine ∧ E (.ref C) none H1
theorem ps_raise {P : Program} {w : World} {K : PySem.W.Frag} {mg : Str → Option Value} {base : Heap} {N : List Str} {qual : Str} {scope : Scope} {f : Addr} {cd : Value} {A : Around} {outer : List Env} {s : Shared} {H : Hp} {E : XK}
    {C : Addr} {x : Str} {np cpos pos : Pos} {e₀ : Expr} {rest : List Expr} {t : TA} (hg : Gl (cxOf (CXe P w) P w K mg base N qual scope f cd A outer s H E) x) (hm : mg x = some (.ref C)) (hC : XMk K C)
    (ha : PA (cxOf (CXe P w) P w K mg base N qual scope f cd A outer s H E) (e₀ :: rest) t)
    (he : starEach (e₀ :: rest) (envOfC qual scope s.heap.objs.size f cd) = (false, eval e₀ (envOfC qual scope s.heap.objs.size f cd)) :: starEach rest (envOfC qual scope s.heap.objs.size f cd) := by rfl)
    (hplain : (backTo cpos (starEach rest (envOfC qual scope s.heap.objs.size f cd))).any (·.1) = false := by rfl) (hdb : (x == ("__debug__" : Str)) = false := by decide) :
    PS (cxOf (CXe P w) P w K mg base N qual scope f cd A outer s H E) (.Raise (some (.Call (.Name x np) (e₀ :: rest) [] cpos)) none pos) (tRaise E C t) := by
  intro pins s1 σ H1 D I h
  obtain ⟨tl, NN, nm, q, bs, hdct, sn, sub, ab, col, dd, k0, k1, k2, k3, k5, mN, hCo, hN, hni, T⟩ := xobj_of I.mod.kin hC
  refine wpAny_Raise_call_subT (C := C) (nm := nm) (q := q) (N := NN) (bs := bs) (bm := tl) (hdct := hdct) (sn := sn) (sub := sub) (ab := ab) (col := col) (dd := dd) (k0 := k0) (k1 := k1) (k2 := k2) (k3 := k3) (k5 := k5)
    F.excBase_ValueError (mN := mN) (T.hasType F.excBase_ValueError.hasBase) (I.ok.hd rfl) (by
      show (backTo cpos (starEach (e₀ :: rest) (envOfC qual scope s.heap.objs.size f cd))).any (·.1) = false
      rw [he]; show (false || (backTo cpos (starEach rest (envOfC qual scope s.heap.objs.size f cd))).any (·.1)) = false; rw [hplain]; rfl) hni (ld_glob I hg hm ⟨rfl, ?_⟩ hdb)
  have h2 := ha cpos pins s1 σ H1 _ I h
  have he' : starEach (e₀ :: rest) (cxOf (CXe P w) P w K mg base N qual scope f cd A outer s H E).env = (false, eval e₀ (cxOf (CXe P w) P w K mg base N qual scope f cd A outer s H E).env) :: starEach rest (cxOf (CXe P w) P w K mg base N qual scope f cd A outer s H E).env := he
  rw [he'] at h2 ⊢
  refine Calls.evalArgs_plain (wpAny_mono h2 (fun vs s₂ ⟨xs, H2, I2, r, hl, q2⟩ => ⟨rfl, by rw [← r.length]; exact hl, I2.bk _ _ hCo, hN.keeps I2.bk, T.keeps I2.bk, fun h' y m => raise_fn I2 m q2⟩) fun _ _ y => y)
end L2
namespace L2
open PySem PySem.Spec PyProof.Rows
/-! ### try: .. except C as n: .. -/
section
variable {X : Cx} {pins : List (Addr × Obj)} {σ : St} {H : Hp} {s : Shared} {x T : Addr}
/-- the pins that every state bears -/
abbrev Cx.pnd (X : Cx) (pn : List (Addr × Obj)) : Cx := { X with pn := pn }
theorem Cx.Ok.pnd (ok : X.Ok) (pn : List (Addr × Obj)) : (X.pnd pn).Ok :=
  ⟨ok.mod, ok.kind, ok.glob, ok.blt, ok.above, ok.inj, ok.has, ok.cab, ok.hd, ok.frames, ok.stk, ok.exf, ok.bs, ok.bsz, ok.noex, ok.exfs, ok.funs, ok.frf⟩
theorem Cx.Ok.unpnd {pn : List (Addr × Obj)} (ok : (X.pnd pn).Ok) : X.Ok :=
  ⟨ok.mod, ok.kind, ok.glob, ok.blt, ok.above, ok.inj, ok.has, ok.cab, ok.hd, ok.frames, ok.stk, ok.exf, ok.bs, ok.bsz, ok.noex, ok.exfs, ok.funs, ok.frf⟩
theorem Inv.pnd (I : Inv X pins σ H s) : Inv (X.pnd (X.pn ++ pins)) [] σ H s :=
  ⟨I.ok.pnd _, I.os, I.bare, I.base, I.loc, I.cell, I.free, I.freeC, fun p hp => I.pin p (by simpa using hp), I.hok, I.len⟩
theorem Inv.unpnd {ps : List (Addr × Obj)} (I : Inv (X.pnd (X.pn ++ pins)) ps σ H s) : Inv X pins σ H s :=
  ⟨I.ok.unpnd, I.os, I.bare, I.base, I.loc, I.cell, I.free, I.freeC, fun p hp => I.pin p (List.mem_append_left _ hp), I.hok, I.len⟩
/-- an error has come -/
def XT (Y : Cx) (Ex : St → XK) (e : Value) (s' : Shared) : Prop := ∃ pins σ H x T C, e = .ref x ∧ Inv Y pins σ H s' ∧ Fy Y pins H x ∧ Fy Y pins H T ∧ Trd s'.heap x T C .none ∧ Ex σ C none H
abbrev Cx.tr (X : Cx) (pn : List (Addr × Obj)) (Ex : St → XK) : Cx := (X.pnd pn).wish (XT (X.pnd pn) Ex)
theorem catch_tr {pn : List (Addr × Obj)} {Ex : St → XK} : Catch (X.tr pn Ex) Ex := fun pins σ H _ x T C I hx hT tr q => ⟨pins, σ, H, x, T, C, rfl, I.unwish, hx, hT, tr, q⟩
/-- within the suite -/
abbrev Cx.su (X : Cx) (pn : List (Addr × Obj)) (x : Addr) : Cx := { X with A := X.A.mark (some (.ref x)), calm := false, pn := pn, xe := fun _ _ => False }
theorem Inv.su (I : Inv X pins σ H s) (x : Addr) : Inv (X.su (X.pn ++ pins) x) [] σ H s :=
  ⟨⟨I.ok.mod, I.ok.kind, I.ok.glob, I.ok.blt, I.ok.above, I.ok.inj, I.ok.has, I.ok.cab, fun z => (by cases z), I.ok.frames, I.ok.stk, I.ok.exf, I.ok.bs, I.ok.bsz, I.ok.noex, I.ok.exfs, I.ok.funs, I.ok.frf⟩,
    I.os, I.bare, I.base, I.loc, I.cell, I.free, I.freeC, fun p hp => I.pin p (by simpa using hp), I.hok, I.len⟩
theorem Inv.unsu (I : Inv (X.su (X.pn ++ pins) x) [] σ H s) (ok : X.Ok) : Inv X pins σ H s :=
  ⟨ok, I.os, I.bare, I.base, I.loc, I.cell, I.free, I.freeC, fun p hp => I.pin p (List.mem_append_left _ hp), I.hok, I.len⟩
/-- a record of ours is looked at from now on -/
theorem Inv.track {o : HO} (I : Inv X pins σ H s) (hx : Fy X pins H x) (ob : ObjOk X.prog X.w (upd H x o) s.heap x o) : Inv X pins σ (upd H x o) s := by
  have ne : ∀ {b u}, H b = some u → b ≠ x := fun {b u} e z => by rw [z, hx.1] at e; cases e
  refine ⟨I.ok, I.os, I.bare, ⟨I.base.keep, I.base.slot, fun b ob e n he => ?_, I.base.there, fun b xs e => ?_, fun b ob u e => ?_, fun b ps e => ?_⟩, I.loc, I.cell, ?_, fun y c e => ?_, fun p hp => ?_, fun b u e => ?_, I.len⟩
  · rw [upd_ne ?_]
    · exact I.base.free b ob e n he
    · rintro rfl
      rcases hx.2.2.2.1 with z | z
      · exact he z
      · rw [e] at z; cases z
  · have q := I.base.tups b xs e
    rw [upd_ne (ne q)]; exact q
  · have q := I.base.frzs b ob u e
    rw [upd_ne (ne q)]; exact q
  · obtain ⟨more, q⟩ := I.base.tbls b ps e
    exact ⟨more, by rw [upd_ne (ne q)]; exact q⟩
  · rw [upd_ne (Ne.symm hx.2.1)]; exact I.free
  · rw [upd_ne (hx.2.2.2.2.1 y c e)]; exact I.freeC y c e
  · obtain ⟨e, n, q⟩ := I.pin p hp
    exact ⟨e, by rw [upd_ne (hx.2.2.2.2.2 p hp)]; exact n, q⟩
  · by_cases hb : b = x
    · subst hb
      rw [upd_same] at e
      cases e
      exact ob
    · rw [upd_ne hb] at e
      exact (I.hok b u e).stay (fun _ _ _ q => q) (fun c q => by rw [upd_ne (ne q)]; exact q) fun c xs q => by rw [upd_ne (ne q)]; exact q
/-- the name goes behind the suite -/
theorem Inv.unbind {M : Model} {A : Around} {E : Value → Shared → Prop} {i : Nat} {n : Str} {pos : Pos} {Q : Unit → Shared → Prop} (I : Inv X pins σ H s) (hN : X.N.Nodup) (hi : X.N[i]? = some n) (hl : X.env.scope.names.lookup n = some .local)
    (h : ∀ s', Inv X pins (σ.set i none) H s' → Q () s') : wpAny M A (do bindName X.env n .none; unbindBehindTheSuite X.env n pos) Q E s := by
  obtain ⟨m, hn, hlk⟩ := id I.loc
  obtain ⟨oL, _, _, hoL, _⟩ := id hn
  have neL : ∀ b o, X.s₀.heap.get? b = some o → b ≠ X.env.locals := fun b o e => Nat.ne_of_lt (Nat.lt_of_lt_of_le (Heap.lt_size e) I.ok.above)
  refine wpAny_nameGoes_keeps hl hn (by rw [I.ok.kind]; rfl) fun h' v hn' hs => h _ ⟨I.ok, I.os, I.bare, ⟨fun b o e n hb hx => ?_, fun b o e n hb hx => ?_, I.base.free, fun b o e hx => ?_, I.base.tups, I.base.frzs, I.base.tbls⟩, ⟨_, hn', fun j y v' e1 e2 e3 => ?_⟩, fun y c e => ?_, I.free, I.freeC, fun p hp => ?_, fun b u e => ?_, by simpa using I.len⟩
  · exact (hs.2 b (neL b o e)).trans (I.base.keep b o e n hb hx)
  · obtain ⟨sl, e1⟩ := I.base.slot b o e n hb hx
    exact ⟨sl, (hs.2 b (neL b o e)).trans e1⟩
  · obtain ⟨o', e1⟩ := I.base.there b o e hx
    exact ⟨o', (hs.2 b (neL b o e)).trans e1⟩
  · by_cases hj : j = i
    · subst hj
      have : j < σ.length := by rw [I.len]; exact (List.getElem?_eq_some_iff.mp hi).1
      rw [List.getElem?_set_self this] at e2
      cases e2
    · rw [List.getElem?_set_ne (Ne.symm hj)] at e2
      obtain ⟨u', r', q⟩ := hlk j y v' e1 e2 e3
      refine ⟨u', r', ?_⟩
      rcases q with ⟨k, e⟩ | ⟨k, c, e, z⟩
      · have : y ≠ n := fun z => hj (nodup_ix hN e1 (z ▸ hi))
        exact .inl ⟨k, by simp [this, e]⟩
      · exact .inr ⟨k, c, e, z.sameBut hs (I.cne y c e)⟩
  · obtain ⟨w', z⟩ := I.cell y c e
    exact ⟨w', z.sameBut hs (I.cne y c e)⟩
  · obtain ⟨e, nn, ne, nf, d⟩ := I.pin p hp
    exact ⟨(hs.2 p.1 ne).trans e, nn, ne, nf, d⟩
  · refine (I.hok b u e).stay (fun c w' hc q => (hs.2 c ?_).trans q) (fun _ q => q) fun _ _ q => q
    rintro rfl
    rcases hc with rfl | hc
    · rw [I.free] at e; cases e
    · rw [I.free] at hc; cases hc
end
def Ends.un (D : Ends) (i : Nat) : Ends := ⟨fun σ H => D.nx (σ.set i none) H, D.rt, fun σ H => D.bk (σ.set i none) H, fun σ H => D.ct (σ.set i none) H⟩
/-- what the body's errors come to -/
def exT (K : PySem.W.Frag) (D : Addr) (i : Nat) (ts : TS) (En : Ends) : St → XK := fun σ' C _ H' => ∀ x, H' x = none → ∃ Ca, C = .ref Ca ∧ PySem.W.exmOne K (.ref Ca) (.ref D) = some true ∧ ts (En.un i) (σ'.set i (some (.ref x))) (upd H' x (.ext (ExAt x Ca)))
def tTry (K : PySem.W.Frag) (D : Addr) (i : Nat) (tb : (St → XK) → TS) (ts : TS) : TS := fun En σ H => tb (exT K D i ts En) En σ H
section
variable {X : Cx} {body suite : List Stmt} {b₀ : Stmt} {tx n : Str} {np hpos pos : Pos} {D : Addr} {i : Nat} {tb : (St → XK) → TS} {ts : TS}
theorem ps_try (hb : ∀ pn Ex, PSs (X.tr pn Ex) body (tb Ex)) (hst : X.stack = X.env :: X.outer ∧ X.env.frame = some X.env.locals) (hg : Gl X tx) (hm : X.mg tx = some (.ref D))
    (hs : ∀ pn x, PSs (X.su pn x) (b₀ :: suite) ts) (hN : X.N.Nodup) (hi : X.N[i]? = some n) (hl : X.env.scope.names.lookup n = some .local) (hdb : (tx == ("__debug__" : Str)) = false := by decide) :
    PS X (.Try body [.ExceptHandler (some (.Name tx np)) (some n) (b₀ :: suite) hpos] [] [] pos) (tTry X.K D i tb ts) := by
  intro pins s σ H En I h
  have toX : ∀ {f s'}, SP (X.tr (X.pn ++ pins) (exT X.K D i ts En)) [] En f s' → SP X pins En f s' := fun {f s'} q => by
    cases f with
    | next => obtain ⟨σ', H', J, q⟩ := q; exact ⟨σ', H', J.unwish.unpnd, q⟩
    | brk => obtain ⟨σ', H', J, q⟩ := q; exact ⟨σ', H', J.unwish.unpnd, q⟩
    | cont => obtain ⟨σ', H', J, q⟩ := q; exact ⟨σ', H', J.unwish.unpnd, q⟩
    | ret u => obtain ⟨v, σ', H', J, r, q⟩ := q; exact ⟨v, σ', H', J.unwish.unpnd, r, q⟩
  refine wpAny_Try_except (wpAny_mono (hb (X.pn ++ pins) (exT X.K D i ts En) [] s σ H En (I.pnd.wish _) h) (fun f s1 q => ?_) fun e s1 q => ?_)
  · have q := toX q
    cases f with
    | next => exact wpAny_execs_nil q
    | brk => exact q
    | cont => exact q
    | ret u => exact q
  · obtain ⟨ps, σ', H', x, T, C, rfl, J, hx, hT, tr, q⟩ := q
    have J : Inv X pins σ' H' s1 := J.unpnd
    have hx : Fy X pins H' x := ⟨hx.1, hx.2.1, hx.2.2.1, hx.2.2.2.1, hx.2.2.2.2.1, fun p hp => hx.2.2.2.2.2 p (List.mem_append_left _ hp)⟩
    have hT : Fy X pins H' T := ⟨hT.1, hT.2.1, hT.2.2.1, hT.2.2.2.1, hT.2.2.2.2.1, fun p hp => hT.2.2.2.2.2 p (List.mem_append_left _ hp)⟩
    obtain ⟨Ca, rfl, hex, q⟩ := q x hx.1
    obtain ⟨a0, ta⟩ := trd_at (X := X) tr
    have fr := J.ok.frames
    rw [hst.1] at fr
    have lf := hid_fr (x := x) (T := T) J
    rw [hst.1] at lf
    refine wpAny_noteFrame_onW (base := hid s1 X x T) fr lf hst.2 ta hid_in hid_x fun h2 ⟨k1, k2, k3, k4⟩ => ?_
    rw [← hst.1] at k2
    obtain ⟨J, T2, hT, tr⟩ := fly_after J hx hT k1 k2 k3 k4
    obtain ⟨a0, ta⟩ := trd_at (s := { s1 with heap := h2 }) (X := X) tr
    refine wpAny_setFlight_noneW (base := hid { s1 with heap := h2 } X x T2) hid_in (hid_fr J) ta fun h3 k1 k2 k3 k4 => ?_
    obtain ⟨J, T3, hT, tr⟩ := fly_after J hx hT k1 k2 k3 fun b o e nf => ⟨o.slots, k4 b o e nf⟩
    refine wpAny_handleBy_cons (codeAny_handlers_test (ld_glob (J.su x) hg hm ?_ hdb)) (by intro z; cases z)
    have at3 : ExAt x Ca h3 := by
      obtain ⟨oe, _, _, _, _, e1, e2, _⟩ := id tr
      exact ⟨oe, e1, e2.1⟩
    refine PySem.W.exm_one (M := model X.prog X.w) (h := h3) J.kIn at3.type hex _ _ _ _ (fun _ _ z => z) ?_
    dsimp only [if_true]
    refine codeAny_handlers_suite_as ?_
    obtain ⟨a0, ta⟩ := trd_at (s := { s1 with heap := h3 }) (X := X) tr
    refine wpAny_setFlight_noneW (base := hid { s1 with heap := h3 } X x T3) hid_in (hid_fr J) ta fun h4 k1 k2 k3 k4 => ?_
    obtain ⟨J, T4, hT, tr⟩ := fly_after J hx hT k1 k2 k3 fun b o e nf => ⟨o.slots, k4 b o e nf⟩
    have at4 : ExAt x Ca h4 := by
      obtain ⟨oe, _, _, _, _, e1, e2, _⟩ := id tr
      exact ⟨oe, e1, e2.1⟩
    have J := J.track (o := .ext (ExAt x Ca)) hx ⟨at4, let ⟨ox, z, _⟩ := at4; ⟨ox, z⟩, fun h1 h2 ⟨ox, z1, z2⟩ k => ⟨ox, k _ z1, z2⟩⟩
    refine store_ok (X := X.su (X.pn ++ pins) x) (i := i) (v := V.ref x) (J.su x) hN hi (Or.inl hl) rfl (fun s5 J5 => ?_) (Or.inr hl)
    refine wpAny_mono (hs (X.pn ++ pins) x [] s5 _ _ (En.un i) J5 q) (fun f s6 q => ?_) fun _ _ z => False.elim z
    cases f with
    | next => obtain ⟨σ6, H6, J6, q⟩ := q; exact (J6.unsu I.ok).unbind hN hi hl fun s7 J7 => ⟨_, H6, J7, q⟩
    | brk => obtain ⟨σ6, H6, J6, q⟩ := q; exact (J6.unsu I.ok).unbind hN hi hl fun s7 J7 => ⟨_, H6, J7, q⟩
    | cont => obtain ⟨σ6, H6, J6, q⟩ := q; exact (J6.unsu I.ok).unbind hN hi hl fun s7 J7 => ⟨_, H6, J7, q⟩
    | ret u => obtain ⟨v, σ6, H6, J6, r, q⟩ := q; exact (J6.unsu I.ok).unbind hN hi hl fun s7 J7 => ⟨v, _, H6, J7, r, q⟩
end
section
variable {σ : St} {H : Hp} {Q : VK} {tr : TA} {ta : TE} {nx : St → Hp → Prop} {rt : VK} {bk ct : St → Hp → Prop} {ts : TS}
theorem i_callE {sp : Sp} {dvs : List V} {Ex : St → XK} (h : tr σ H fun vs H1 => sp (vs ++ dvs) H1 Q (Ex σ)) : tCallE sp dvs Ex tr σ H Q := h
theorem i_methE {C : Addr} {m : Str} {sp : Sp} {dvs : List V} {Ex : St → XK} (h : ta σ H fun x H1 => ∃ a dx fs, x = .ref a ∧ H1 a = some (.ins C dx fs) ∧ fs.lookup m = none ∧ tr σ H1 fun vs H2 => sp (x :: (vs ++ dvs)) H2 Q (Ex σ)) : tMethE C m sp dvs Ex ta tr σ H Q := h
theorem i_makeE {C : Addr} {sp : Sp} {dvs : List V} {Ex : St → XK} (h : tr σ H fun vs H1 => ∀ x dx, H1 x = none → H1 dx = none → dx ≠ x → sp (.ref x :: (vs ++ dvs)) (upd (upd H1 dx (.own x)) x (.ins C dx [])) (fun v H2 => v = .non ∧ Q (.ref x) H2) (Ex σ)) : tMakeE C sp dvs Ex tr σ H Q := h
theorem i_raise {E : XK} {C : Addr} {D : Ends} (h : tr σ H fun vs H1 => vs.length ≤ sizeLine ∧ E (.ref C) none H1) : tRaise E C tr D σ H := h
theorem i_try {K : PySem.W.Frag} {D : Addr} {i : Nat} {tb : (St → XK) → TS} (h : tb (exT K D i ts ⟨nx, rt, bk, ct⟩) ⟨nx, rt, bk, ct⟩ σ H) : tTry K D i tb ts ⟨nx, rt, bk, ct⟩ σ H := h
/-- the error has come to the clause -/
theorem i_exT {K : PySem.W.Frag} {D : Addr} {i : Nat} {C : Addr} {d : Option Addr} (he : PySem.W.exmOne K (.ref C) (.ref D) = some true) (h : ∀ x, H x = none → ts ⟨fun σ H => nx (σ.set i none) H, rt, fun σ H => bk (σ.set i none) H, fun σ H => ct (σ.set i none) H⟩ (σ.set i (some (.ref x))) (upd H x (.ext (ExAt x C)))) :
    exT K D i ts ⟨nx, rt, bk, ct⟩ σ (.ref C) d H := fun x hx => ⟨C, rfl, he, h x hx⟩
theorem i_isX {K : PySem.W.Frag} {x C : Addr} {cv : V} {c : Value} {k : Bool} (hx : H x = some (.ext (ExAt x C))) (cl : XCls K C) (r : RelV cv c) (u : ∀ u, RelV cv u → u = c) (e : PySem.W.kitOne K (.ref C) c = some k) (h : Q (.bl k) H) : rIsX K [.ref x, cv] H Q := ⟨x, cv, C, c, k, rfl, r, u, hx, cl, e, h⟩
theorem i_isXr {K : PySem.W.Frag} {x C D : Addr} {k : Bool} (hx : H x = some (.ext (ExAt x C))) (cl : XCls K C) (e : PySem.W.kitOne K (.ref C) (.ref D) = some k) (h : Q (.bl k) H) : rIsX K [.ref x, .ref D] H Q := i_isX hx cl rfl (fun _ z => z) e h
theorem i_isXt {K : PySem.W.Frag} {x C : Addr} {n : String} {k : Bool} (hx : H x = some (.ext (ExAt x C))) (cl : XCls K C) (e : PySem.W.kitOne K (.ref C) (.type n) = some k) (h : Q (.bl k) H) : rIsX K [.ref x, .ty n] H Q := i_isX hx cl rfl (fun _ z => z) e h
end
end L2
namespace L2
open PySem PySem.Spec PyProof.Rows

/-! ### lists of pairs as tables -/
section
variable {κ : Type} [DecidableEq κ]
def valV (kvs : List (κ × V)) (k : κ) : Option V := (kvs.find? fun kv => decide (kv.1 = k)).map (·.2)
/-- in its place, or at the end -/
def putK (kvs : List (κ × V)) (k : κ) (v : V) : List (κ × V) :=
  if (kvs.any fun kv => decide (kv.1 = k)) = true then kvs.map (fun kv => if kv.1 = k then (kv.1, v) else kv) else kvs ++ [(k, v)]
def dropK (kvs : List (κ × V)) (k : κ) : List (κ × V) := kvs.filter fun kv => decide (kv.1 ≠ k)

theorem valV_pos {p : κ × V} {r : List (κ × V)} {k : κ} (e : p.1 = k) : valV (p :: r) k = some p.2 := by simp [valV, List.find?_cons, e]
theorem valV_neg {p : κ × V} {r : List (κ × V)} {k : κ} (e : ¬ p.1 = k) : valV (p :: r) k = valV r k := by simp [valV, List.find?_cons, e]
theorem valV_any (k : κ) : ∀ kvs : List (κ × V), (kvs.any fun kv => decide (kv.1 = k)) = (valV kvs k).isSome
  | [] => rfl
  | p :: r => by
    rw [List.any_cons]
    by_cases e : p.1 = k
    · simp only [valV_pos e, decide_eq_true e, Bool.true_or, Option.isSome_some]
    · rw [valV_neg e, decide_eq_false e, Bool.false_or]; exact valV_any k r
theorem valV_map (k j : κ) (y : V) : ∀ kvs : List (κ × V), valV (kvs.map fun kv => if kv.1 = k then (kv.1, y) else kv) j = (valV kvs j).map fun x => if j = k then y else x
  | [] => rfl
  | p :: r => by
    have ih := valV_map k j y r
    rw [List.map_cons]
    by_cases h : p.1 = k
    · rw [if_pos h]
      by_cases e : p.1 = j
      · rw [valV_pos (p := (p.1, y)) e, valV_pos e, Option.map_some, if_pos (e.symm.trans h)]
      · rw [valV_neg (p := (p.1, y)) e, valV_neg e, ih]
    · rw [if_neg h]
      by_cases e : p.1 = j
      · rw [valV_pos (p := p) e, valV_pos e, Option.map_some, if_neg (fun z => h (e.trans z))]
      · rw [valV_neg (p := p) e, valV_neg e, ih]
theorem valV_snoc (k j : κ) (y : V) : ∀ kvs : List (κ × V), valV kvs k = none → valV (kvs ++ [(k, y)]) j = if j = k then some y else valV kvs j
  | [], _ => by
    by_cases e : k = j
    · rw [if_pos e.symm]; exact valV_pos (p := (k, y)) e
    · rw [if_neg (fun z => e z.symm)]; exact valV_neg (p := (k, y)) e
  | p :: r, hn => by
    rw [List.cons_append]
    have hk : ¬ p.1 = k := fun z => by rw [valV_pos z] at hn; cases hn
    rw [valV_neg hk] at hn
    have ih := valV_snoc k j y r hn
    by_cases e : p.1 = j
    · rw [valV_pos e, valV_pos e, if_neg (fun z => hk (e.trans z))]
    · rw [valV_neg e, valV_neg e, ih]
theorem valV_put (kvs : List (κ × V)) (k j : κ) (y : V) : valV (putK kvs k y) j = if j = k then some y else valV kvs j := by
  unfold putK
  by_cases a : (kvs.any fun kv => decide (kv.1 = k)) = true
  · rw [if_pos a, valV_map]
    rw [valV_any] at a
    by_cases e : j = k
    · obtain ⟨x, hx⟩ := Option.isSome_iff_exists.mp a
      rw [if_pos e, e, hx, Option.map_some, if_pos rfl]
    · rw [if_neg e]
      cases valV kvs j with
      | none => rfl
      | some x => rw [Option.map_some, if_neg e]
  · rw [if_neg a]
    refine valV_snoc k j y kvs ?_
    rw [valV_any] at a
    cases q : valV kvs k with
    | none => rfl
    | some x => rw [q] at a; exact (a rfl).elim
theorem length_putK (kvs : List (κ × V)) (k : κ) (v : V) : (putK kvs k v).length ≤ kvs.length + 1 := by
  unfold putK
  split
  · rw [List.length_map]; omega
  · rw [List.length_append, List.length_cons, List.length_nil]; omega
theorem putK_new {kvs : List (κ × V)} {k : κ} (v : V) (h : valV kvs k = none) : putK kvs k v = kvs ++ [(k, v)] := by
  unfold putK
  rw [valV_any, h]
  exact if_neg (by decide)

theorem RelO.isSome_eq {o : Option V} {u : Option Value} (r : RelO o u) : o.isSome = u.isSome := by
  cases o with
  | none => cases u with
    | none => rfl
    | some _ => exact (show False from r).elim
  | some _ => cases u with
    | none => exact (show False from r).elim
    | some _ => rfl
theorem RelO.getD {o : Option V} {u : Option Value} {d : V} {d' : Value} (r : RelO o u) (rd : RelV d d') : RelV (o.getD d) (u.getD d') := by
  cases o with
  | none => cases u with
    | none => exact rd
    | some _ => exact (show False from r).elim
  | some _ => cases u with
    | none => exact (show False from r).elim
    | some _ => exact r

/-- raw tables of the same keys -/
theorem KV.val {kvs : List (κ × V)} {vs : List (κ × Value)} (r : KV kvs vs) (k : κ) : RelO (valV kvs k) (valueAt vs k) := by
  unfold KV at r
  induction r with
  | nil => exact True.intro
  | @cons p q ps qs h t ih =>
    obtain ⟨h1, h2⟩ := h
    by_cases e : p.1 = k
    · have e' : q.1 = k := h1.symm.trans e
      have b : valueAt (q :: qs) k = some q.2 := by simp [valueAt, List.find?_cons, e']
      rw [valV_pos e, b]; exact h2
    · have e' : ¬ q.1 = k := fun z => e (h1.trans z)
      have b : valueAt (q :: qs) k = valueAt qs k := by simp [valueAt, List.find?_cons, e']
      rw [valV_neg e, b]; exact ih
theorem KV.any {kvs : List (κ × V)} {vs : List (κ × Value)} (r : KV kvs vs) (k : κ) : (kvs.any fun kv => decide (kv.1 = k)) = vs.any fun kv => decide (kv.1 = k) := by
  unfold KV at r
  induction r with
  | nil => rfl
  | cons h t ih => rw [List.any_cons, List.any_cons, ih, h.1]
theorem KV.repl {kvs : List (κ × V)} {vs : List (κ × Value)} (r : KV kvs vs) (k : κ) {y : V} {u : Value} (ry : RelV y u) :
    KV (kvs.map fun kv => if kv.1 = k then (kv.1, y) else kv) (vs.map fun kv => if kv.1 = k then (kv.1, u) else kv) := by
  unfold KV at r ⊢
  induction r with
  | nil => exact .nil
  | @cons p q ps qs h t ih =>
    rw [List.map_cons, List.map_cons]
    refine .cons ?_ ih
    obtain ⟨h1, h2⟩ := h
    by_cases e : p.1 = k
    · rw [if_pos e, if_pos (h1.symm.trans e)]; exact ⟨h1, ry⟩
    · rw [if_neg e, if_neg (fun z => e (h1.trans z))]; exact ⟨h1, h2⟩
theorem KV.put {kvs : List (κ × V)} {vs : List (κ × Value)} (r : KV kvs vs) (k : κ) {y : V} {u : Value} (ry : RelV y u) : KV (putK kvs k y) (stored vs k u) := by
  unfold putK stored
  rw [r.any k]
  by_cases e : (vs.any fun kv => decide (kv.1 = k)) = true
  · rw [if_pos e, if_pos e]; exact r.repl k ry
  · rw [if_neg e, if_neg e]; exact Paired.snoc r ⟨rfl, ry⟩
theorem KV.drop {kvs : List (κ × V)} {vs : List (κ × Value)} (r : KV kvs vs) (k : κ) : KV (dropK kvs k) (without vs k) := by
  unfold KV at r ⊢
  unfold dropK without
  induction r with
  | nil => exact .nil
  | @cons p q ps qs h t ih =>
    obtain ⟨h1, h2⟩ := h
    rw [List.filter_cons, List.filter_cons]
    by_cases e : p.1 = k
    · have a : ¬ decide (p.1 ≠ k) = true := by simp [e]
      have b : ¬ decide (q.1 ≠ k) = true := by simp [h1.symm.trans e]
      rw [if_neg a, if_neg b]; exact ih
    · have e' : ¬ q.1 = k := fun z => e (h1.trans z)
      have a : decide (p.1 ≠ k) = true := by simp [e]
      have b : decide (q.1 ≠ k) = true := by simp [e']
      rw [if_pos a, if_pos b]; exact .cons ⟨h1, h2⟩ ih
theorem KV.keys {kvs : List (κ × V)} {vs : List (κ × Value)} (r : KV kvs vs) : kvs.map (·.1) = vs.map (·.1) := by
  unfold KV at r
  induction r with
  | nil => rfl
  | cons h t ih => rw [List.map_cons, List.map_cons, ih, h.1]
theorem KV.length {kvs : List (κ × V)} {vs : List (κ × Value)} (r : KV kvs vs) : kvs.length = vs.length := Paired.length r
end


/-! ### a tracked dict, its keys ints and texts or tuples of these -/
theorem kV_is {P : Program} {w : World} {k : Key} {u : Value} (r : RelV (kV k) u) : (mixKind P w).is k u = true := by
  cases k with
  | inl i => obtain ⟨t, e⟩ := (show ∃ t, u = Value.int i t from r); subst e; exact mixKind_int P w i t
  | inr x => obtain ⟨t, e⟩ := (show ∃ t, u = Value.str x t from r); subst e; exact mixKind_str P w x t
theorem items_are {P : Program} {w : World} : ∀ {ks : List Key} {us : List Value}, Vals (ks.map kV) us → ItemsAre (mixKind P w) ks us
  | [], _, r => by rw [List.map_nil] at r; cases r; exact .nil
  | k :: ks, _, r => by
    rw [List.map_cons] at r
    cases r with
    | cons h t => exact .cons (kV_is h) (items_are t)

/-- raw entries of a dict with tuple keys -/
abbrev KT (H : Hp) : List (List Key × V) → List (List Key × Addr × Value) → Prop := Paired fun p q => p.1 = q.1 ∧ H q.2.1 = some (.tup (p.1.map kV)) ∧ RelV p.2 q.2.2
theorem KT.val {H : Hp} {kvs : List (List Key × V)} {xs : List (List Key × Addr × Value)} (r : KT H kvs xs) (k : List Key) : RelO (valV kvs k) ((atKey xs k).map (·.2)) := by
  induction r with
  | nil => exact True.intro
  | @cons p q ps qs h t ih =>
    obtain ⟨h1, _, h2⟩ := h
    by_cases e : p.1 = k
    · have e' : q.1 = k := h1.symm.trans e
      have b : atKey (q :: qs) k = some q.2 := by simp [atKey, List.find?_cons, e']
      rw [valV_pos e, b]; exact h2
    · have e' : ¬ q.1 = k := fun z => e (h1.trans z)
      have b : atKey (q :: qs) k = atKey qs k := by simp [atKey, List.find?_cons, e']
      rw [valV_neg e, b]; exact ih
theorem KT.repl {H : Hp} {kvs : List (List Key × V)} {xs : List (List Key × Addr × Value)} (r : KT H kvs xs) (k : List Key) {y : V} {u : Value} (ry : RelV y u) :
    KT H (kvs.map fun kv => if kv.1 = k then (kv.1, y) else kv) (xs.map (putAt k u)) := by
  induction r with
  | nil => exact .nil
  | @cons p q ps qs h t ih =>
    rw [List.map_cons, List.map_cons]
    refine .cons ?_ ih
    obtain ⟨h1, h2, h3⟩ := h
    unfold putAt
    by_cases e : p.1 = k
    · rw [if_pos e, if_pos (h1.symm.trans e)]; exact ⟨h1, h2, ry⟩
    · rw [if_neg e, if_neg (fun z => e (h1.trans z))]; exact ⟨h1, h2, h3⟩
theorem KT.put {H : Hp} {kvs : List (List Key × V)} {xs : List (List Key × Addr × Value)} (r : KT H kvs xs) (k : List Key) {b : Addr} {y : V} {u : Value} (hb : H b = some (.tup (k.map kV))) (ry : RelV y u) :
    KT H (putK kvs k y) (storedH xs k b u) := by
  have e : (kvs.any fun kv => decide (kv.1 = k)) = (atKey xs k).isSome := by
    rw [valV_any, (r.val k).isSome_eq, Option.isSome_map]
  unfold putK storedH
  rw [e]
  by_cases q : (atKey xs k).isSome = true
  · rw [if_pos q, if_pos q]; exact r.repl k ry
  · rw [if_neg q, if_neg q]; exact Paired.snoc r ⟨rfl, hb, ry⟩
theorem KT.keeps {H H' : Hp} {kvs : List (List Key × V)} {xs : List (List Key × Addr × Value)} (r : KT H kvs xs) (ht : ∀ b ys, H b = some (.tup ys) → H' b = some (.tup ys)) : KT H' kvs xs :=
  Paired.mapP r fun _ _ z => ⟨z.1, ht _ _ z.2.1, z.2.2⟩

section
variable {P : Program} {w : World} {H : Hp} {h : Heap} {a : Addr}
theorem rd_of {u : HO} (ok : HOk P w H h) (e : Rd H a u) : ObjOk P w H h a u := e.ok ok
theorem dk_rd {kvs : List (Key × V)} (ok : HOk P w H h) (e : Rd H a (.dK kvs)) : kvs.length ≤ sizeLine ∧ (a == sysModules) = false ∧ ∃ vs, KV kvs vs ∧ h.DictOf (mixKind P w) a vs :=
  show ObjOk P w H h a (.dK kvs) from rd_of ok e
theorem dk_of {kvs : List (Key × V)} (ok : HOk P w H h) (e : H a = some (.dK kvs)) : kvs.length ≤ sizeLine ∧ (a == sysModules) = false ∧ ∃ vs, KV kvs vs ∧ h.DictOf (mixKind P w) a vs := dk_rd ok (.inl e)
/-- a tracked tuple of ints and texts is a key -/
theorem key_of {ks : List Key} (ok : HOk P w H h) (e : H a = some (.tup (ks.map kV))) : (tupleKind (mixKind P w)).is h ks a := by
  obtain ⟨_, its, r, o, h1, h2, n, h3⟩ := (show ObjOk P w H h a (.tup (ks.map kV)) from ok a _ e)
  exact ⟨o, its.toArray, n, h1, h2, h3, by simpa using items_are r⟩
theorem dt_rd {kvs : List (List Key × V)} (ok : HOk P w H h) (e : Rd H a (.dT kvs)) : kvs.length ≤ sizeLine ∧ (a == sysModules) = false ∧
    ∃ xs, KT H kvs xs ∧ h.DictOfH (tupleKind (mixKind P w)) a xs := by
  obtain ⟨z, y, xs, r, o, es, ep, h1, h2, h3, h4, h5⟩ := (show ObjOk P w H h a (.dT kvs) from rd_of ok e)
  refine ⟨z, y, xs, r, o, es, ep, h1, h2, h3, h4, fun x hx => ?_, h5⟩
  have all : ∀ {l : List (List Key × V)} {m : List (List Key × Addr × Value)}, KT H l m → ∀ x ∈ m, (tupleKind (mixKind P w)).is h x.1 x.2.1 := by
    intro l m q
    induction q with
    | nil => intro x hx; exact nomatch hx
    | @cons p q ps qs hq t ih =>
      intro x hx
      rcases List.mem_cons.mp hx with e | hx
      · subst e
        exact key_of ok (by rw [← hq.1]; exact hq.2.1)
      · exact ih x hx
  exact all r x hx
theorem dt_of {kvs : List (List Key × V)} (ok : HOk P w H h) (e : H a = some (.dT kvs)) : kvs.length ≤ sizeLine ∧ (a == sysModules) = false ∧
    ∃ xs, KT H kvs xs ∧ h.DictOfH (tupleKind (mixKind P w)) a xs := dt_rd ok (.inl e)
end

/-- what the dict at a holds at the key y -/
def DGet (H : Hp) (a : Addr) (y : V) (r : Option V) : Prop :=
  (∃ kvs k, Rd H a (.dK kvs) ∧ y = kV k ∧ r = valV kvs k) ∨ ∃ kvs k b, Rd H a (.dT kvs) ∧ y = .ref b ∧ H b = some (.tup (k.map kV)) ∧ r = valV kvs k
/-- the heap behind a[y] = v -/
def DPut (H : Hp) (a : Addr) (y v : V) (H' : Hp) : Prop :=
  (∃ kvs k, H a = some (.dK kvs) ∧ y = kV k ∧ kvs.length < sizeLine ∧ H' = upd H a (.dK (putK kvs k v))) ∨
  ∃ kvs k b, H a = some (.dT kvs) ∧ y = .ref b ∧ H b = some (.tup (k.map kV)) ∧ kvs.length < sizeLine ∧ H' = upd H a (.dT (putK kvs k v))
theorem DGet.k {H : Hp} {a : Addr} {kvs : List (Key × V)} {k : Key} (e : H a = some (.dK kvs)) : DGet H a (kV k) (valV kvs k) := .inl ⟨kvs, k, .inl e, rfl, rfl⟩
theorem DGet.t {H : Hp} {a b : Addr} {kvs : List (List Key × V)} {k : List Key} (e : H a = some (.dT kvs)) (eb : H b = some (.tup (k.map kV))) : DGet H a (.ref b) (valV kvs k) := .inr ⟨kvs, k, b, .inl e, rfl, eb, rfl⟩
theorem DPut.k {H : Hp} {a : Addr} {kvs : List (Key × V)} {k : Key} {v : V} (e : H a = some (.dK kvs)) (hl : kvs.length < sizeLine) : DPut H a (kV k) v (upd H a (.dK (putK kvs k v))) := .inl ⟨kvs, k, e, rfl, hl, rfl⟩
theorem DPut.t {H : Hp} {a b : Addr} {kvs : List (List Key × V)} {k : List Key} {v : V} (e : H a = some (.dT kvs)) (eb : H b = some (.tup (k.map kV))) (hl : kvs.length < sizeLine) :
    DPut H a (.ref b) v (upd H a (.dT (putK kvs k v))) := .inr ⟨kvs, k, b, e, rfl, eb, hl, rfl⟩


section
variable {X : Cx} {pins : List (Addr × Obj)} {σ : St} {H : Hp} {s : Shared} {a : Addr} {y v : V} {u r : Value} {o : Option V} {A : Around} {E : Value → Shared → Prop}

theorem Inv.big (I : Inv X pins σ H s) : sysModules < s.heap.objs.size := by
  have h : mainGlobals < s.heap.objs.size := (I.mod.glob.keeps I.bk).lt
  exact Nat.lt_trans (by decide) h

/-- d[y], there -/
theorem d_getItem {Q : Value → Shared → Prop} (hu : A.units + 1 < cLine) (I : Inv X pins σ H s) (g : DGet H a y (some v)) (ry : RelV y u) (h : ∀ w' s', Inv X pins σ H s' → RelV v w' → Q w' s') :
    wpAny (model X.prog X.w) A (getItem (.ref a) u) Q E s := by
  rcases g with ⟨kvs, k, e, ey, l⟩ | ⟨kvs, k, b, e, ey, eb, l⟩
  · subst ey
    obtain ⟨z, hd, vs, rel, dd⟩ := dk_rd I.hok e
    obtain ⟨w', hw, rw'⟩ := RelO.some_of (v := v) (o := valueAt vs k) (by rw [l]; exact rel.val k)
    exact wpAny_getItem_of (kV_is ry) dd.mapOf hw (h w' _ (I.tok _) rw')
  · subst ey
    cases (show u = Value.ref b from ry)
    obtain ⟨z, hd, xs, rel, dd⟩ := dt_rd I.hok e
    obtain ⟨w', hw, rw'⟩ := RelO.some_of (v := v) (o := (atKey xs k).map (·.2)) (by rw [l]; exact rel.val k)
    obtain ⟨p, hp, hp2⟩ := Option.map_eq_some_iff.mp hw
    refine wpAny_getItem_heap (tupleKind_room_in1 hu) (key_of I.hok eb) dd hp ?_
    rw [hp2]
    exact h w' _ (I.tok _) rw'
theorem d_notIn {Q : Value → Shared → Prop} (hu : A.units + 1 < cLine) (I : Inv X pins σ H s) (g : DGet H a y o) (ry : RelV y u) (h : ∀ s', Inv X pins σ H s' → Q (.bool (!o.isSome)) s') :
    wpAny (model X.prog X.w) A (compareOp .NotIn u (.ref a)) Q E s := by
  rcases g with ⟨kvs, k, e, ey, l⟩ | ⟨kvs, k, b, e, ey, eb, l⟩
  · subst ey
    obtain ⟨z, hd, vs, rel, dd⟩ := dk_rd I.hok e
    refine wpAny_notIn_of (kV_is ry) hd dd.mapOf ?_
    rw [← (rel.val k).isSome_eq, ← l]
    exact h _ (I.tok _)
  · subst ey
    cases (show u = Value.ref b from ry)
    obtain ⟨z, hd, xs, rel, dd⟩ := dt_rd I.hok e
    refine wpAny_notIn_heap (tupleKind_room_in1 hu) (key_of I.hok eb) hd dd ?_
    have q := (rel.val k).isSome_eq
    rw [Option.isSome_map] at q
    rw [← q, ← l]
    exact h _ (I.tok _)
/-- a dict's object is replaced -/
theorem d_write {h' : Heap} {t' : Nat} {ob : HO} (I : Inv X pins σ H s) (mu : Mut (H a)) (hs : Heap.SameBut a s.heap h') (he : ∃ q, h'.get? a = some q) (new : ObjOk X.prog X.w (upd H a ob) h' a ob) :
    Inv X pins σ (upd H a ob) { s with heap := h', toks := t' } :=
  I.write (x := a) (e := a) mu (.inl rfl) (fun b q hb z => (hs.2 b hb).trans z) he new
theorem dk_new {P : Program} {w : World} {H' : Hp} {h' : Heap} {kvs : List (Key × V)} {vs : List (Key × Value)} (z : kvs.length ≤ sizeLine) (hd : (a == sysModules) = false) (rel : KV kvs vs) (dd : h'.DictOf (mixKind P w) a vs) :
    ObjOk P w H' h' a (.dK kvs) := ⟨z, hd, vs, rel, dd⟩
/-- d[y] = v -/
theorem d_setItem {H' : Hp} {Q : Unit → Shared → Prop} (hu : A.units + 1 < cLine) (I : Inv X pins σ H s) (g : DPut H a y v H') (ry : RelV y u) (rv : RelV v r) (h : ∀ s', Inv X pins σ H' s' → Q () s') :
    wpAny (model X.prog X.w) A (setItem (.ref a) u r) Q E s := by
  rcases g with ⟨kvs, k, e, ey, l, eH⟩ | ⟨kvs, k, b, e, ey, eb, l, eH⟩
  · subst ey eH
    obtain ⟨z, hd, vs, rel, dd⟩ := dk_of I.hok e
    have hz : vs.length ≤ sizeLine := by rw [← rel.length]; exact z
    have hl : (putK kvs k v).length ≤ sizeLine := by have := length_putK kvs k v; omega
    refine wpAny_setItem_pairs (hsz := hz) (kV_is ry) dd fun h' dd' hs => h _ ?_
    have he : ∃ q, h'.get? a = some q := let ⟨q, _, _, hq, _⟩ := dd'; ⟨q, hq⟩
    exact d_write I (by rw [e]; exact True.intro) hs he (dk_new hl hd (rel.put k rv) dd')
  · subst ey eH
    cases (show u = Value.ref b from ry)
    obtain ⟨z, hd, xs, rel, dd⟩ := dt_of I.hok e
    have hz : xs.length ≤ sizeLine := by rw [← Paired.length rel]; exact z
    have hl : (putK kvs k v).length ≤ sizeLine := by have := length_putK kvs k v; omega
    refine wpAny_setItem_heap (hsz := hz) (tupleKind_room_in1 hu) (key_of I.hok eb) dd fun h' dd' hs => h _ ?_
    obtain ⟨q, es, ep, hq, h2, h3, h4, _, h5⟩ := dd'
    refine d_write I (by rw [e]; exact True.intro) hs ⟨q, hq⟩ ⟨hl, hd, _, (rel.put k eb rv).keeps fun c ys ec => ?_, q, es, ep, hq, h2, h3, h4, h5⟩
    rw [upd_ne (ne_of ec e (fun z => nomatch z))]
    exact ec
end

section
variable {X : Cx} {pins : List (Addr × Obj)} {σ : St} {H : Hp} {s : Shared} {a : Addr} {kvs : List (Key × V)} {k : Key} {u : Value} {A : Around} {E : Value → Shared → Prop}
end


/-! ### readings and rules -/
/-- the element of a subscription, not a slice -/
def NoSl (i : Expr) : Prop := ∀ ov iv, subscripted i false ov iv = operate [ov, iv] (getItem ov iv)
theorem subD_of {prog : Program} {w : World} {A : Around} {E : Value → Shared → Prop} {s : Shared} {env : Env} {value slice : Expr} {pos : Pos} {T id : String} {Q : Value → Shared → Prop}
    (hl : typeLookup (.type T) "__getitem__" = pure (some (.builtin id))) (hs : NoSl slice)
    (h : wpAny (model prog w) A (eval value env) (fun o s₁ => wpAny (model prog w) A (eval slice env) (fun i s₂ => s₂.TypeIs o T ∧ wpAny (model prog w) A (getItem o i) Q E s₂) E s₁) E s) :
    wpAny (model prog w) A (eval (.Subscript value slice pos) env) Q E s := by
  refine Subscript_ (wpAny_mono h (fun o s₁ h₁ => wpAny_mono h₁ (fun i s₂ h₂ => ?_) fun _ _ x => x) fun _ _ x => x)
  obtain ⟨hT, h₂⟩ := h₂
  unfold subscriptTail
  refine wpAny_bind ?_
  rw [getitemInPython_of_ne hT.not_modules]
  refine wpAny_bind (wpAny_specialOf hT hl ?_)
  have fin : wpAny (model prog w) A (subscripted slice false o i) (fun r s₃ => wpAny (model prog w) A (letTemporaryGo value o r >>= fun _ => pure r) Q E s₃) E s₂ := by
    rw [hs o i]
    exact wpAny_operating (wpAny_mono h₂ (fun r s₃ h₃ => wpAny_bind (wpAny_letTemporaryGo (wpAny_pure h₃))) fun _ _ x => x)
  first
    | exact wpAny_pure (wpAny_bind fin)
    | exact wpAny_bind (wpAny_pure (wpAny_bind fin))
    | exact wpAny_bind fin

theorem dict_typeIs {X : Cx} {pins : List (Addr × Obj)} {σ : St} {H : Hp} {s : Shared} {a : Addr} {y : V} {o : Option V} (I : Inv X pins σ H s) (g : DGet H a y o) : s.TypeIs (.ref a) "dict" := by
  rcases g with ⟨kvs, k, e, _, _⟩ | ⟨kvs, k, b, e, _, _, _⟩
  · obtain ⟨_, _, vs, _, dd⟩ := dk_rd I.hok e
    exact dd.typeIs
  · obtain ⟨_, _, xs, _, dd⟩ := dt_rd I.hok e
    exact dd.typeIs
/-- d[y] -/
def tDGet (td ty : TE) : TE := fun σ H Q => td σ H fun x H1 => ty σ H1 fun y H2 => ∃ a v, x = .ref a ∧ DGet H2 a y (some v) ∧ Q v H2
/-- y in d, y not in d -/
def tDIn (ty td : TE) : TE := fun σ H Q => ty σ H fun y H1 => td σ H1 fun x H2 => ∃ a o, x = .ref a ∧ DGet H2 a y o ∧ Q (.bl o.isSome) H2
def tDNotIn (ty td : TE) : TE := fun σ H Q => ty σ H fun y H1 => td σ H1 fun x H2 => ∃ a o, x = .ref a ∧ DGet H2 a y o ∧ Q (.bl (!o.isSome)) H2
/-- d[y] = v -/
def sDPut (td ty tv : TE) : TS := fun D σ H => tv σ H fun v H1 => td σ H1 fun x H2 => ty σ H2 fun y H3 => ∃ a H4, x = .ref a ∧ DPut H3 a y v H4 ∧ D.nx σ H4
section
variable {X : Cx} {o i e value : Expr} {pos pos' tpos : Pos} {td ty tv : TE}
theorem pe_dget (hu : X.A.units + 1 < cLine) (ho : PE X o td) (hi : PE X i ty) (hs : NoSl i) : PE X (.Subscript o i pos) (tDGet td ty) := by
  intro pins s σ H Q I h
  refine subD_of PySem.F.slot_dict_getitem.lookup hs (thn (ho pins s σ H _ I h) fun u s1 ⟨x, H1, I1, rx, q1⟩ => thn (hi pins s1 σ H1 _ I1 q1) fun iv s2 ⟨y, H2, I2, ry, a, v, ex, g, q2⟩ => ?_)
  subst ex
  obtain rfl : u = Value.ref a := rx
  exact ⟨dict_typeIs I2 g, d_getItem hu I2 g ry fun w' s3 I3 rw' => ⟨v, H2, I3, rw', q2⟩⟩
theorem pc_dnotin (hu : X.A.units + 1 < cLine) (hi : PE X i ty) (ho : PE X o td) : PC X .NotIn i o (tDNotIn ty td) := by
  intro pins s σ H Q I h
  refine thn (hi pins s σ H _ I h) fun iv s1 ⟨y, H1, I1, ry, q1⟩ => thn (ho pins s1 σ H1 _ I1 q1) fun u s2 ⟨x, H2, I2, rx, a, ov, ex, g, q2⟩ => ?_
  subst ex
  obtain rfl : u = Value.ref a := rx
  exact d_notIn hu I2 g ry fun s3 I3 => ⟨.bl (!ov.isSome), H2, I3, rfl, q2⟩
theorem ps_dput (hu : X.A.units + 1 < cLine) (ho : PE X o td) (hi : PE X i ty) (hv : PE X value tv) (hs : swapsWith value (some (.Subscript o i pos')) pos.line X.env = pure false) :
    PS X (.Assign [.Subscript o i pos'] value pos) (sDPut td ty tv) := by
  intro pins s σ H D I h
  refine wpAny_Assign_Subscript (thn (hv pins s σ H _ I h) fun r s1 ⟨v, H1, I1, rv, q1⟩ => thn (ho pins s1 σ H1 _ I1 q1) fun u s2 ⟨x, H2, I2, rx, q2⟩ => thn (hi pins s2 σ H2 _ I2 q2) fun iv s3 ⟨y, H3, I3, ry, a, H4, ex, g, q3⟩ => ?_) hs
  subst ex
  obtain rfl : u = Value.ref a := rx
  exact d_setItem hu I3 g ry rv fun s4 I4 => ⟨σ, H4, I4, q3⟩
end


/-! ### displays -/
theorem dt_empty {P : Program} {w : World} {H : Hp} (h : Heap) (hb : sysModules < h.objs.size) : ObjOk P w H (h.push { cls := .type "dict", data := .dict #[] }) h.objs.size (.dT []) :=
  ⟨Nat.zero_le _, beq_eq_false_iff_ne.mpr (Ne.symm (Nat.ne_of_lt hb)), [], .nil, _, #[], 0, Heap.get?_push_size _ rfl, ⟨rfl, rfl, rfl⟩, rfl, rfl, List.nodup_nil⟩
def tDNewT : TE := fun _ H Q => ∀ p, H p = none → Q (.ref p) (upd H p (.dT []))
section
variable {X : Cx} {pos : Pos}
theorem pe_dnewT : PE X (.Dict [] [] pos) tDNewT := fun pins s σ H Q I h =>
  wpAny_Dict_empty ⟨.ref s.heap.objs.size, _, I.laid (a := s.heap.objs.size) (o := .dT []) (t' := s.toks) (fun _ _ q => Heap.get?_push_of_some _ q) (Nat.le_refl _) (dt_empty s.heap I.big), rfl, h _ (I.hok.fresh (Nat.le_refl _))⟩
end

/-! ### methods -/
/-- a method call o.m(e) of a built-in, with one argument: what must be seen of the text -/
structure M1 (X : Cx) (o : Expr) (m : Str) (apos : Pos) (e : Expr) (cpos : Pos) : Prop where
  base : attributeBase o m X.env (eval o X.env) = eval o X.env
  few : ((backTo cpos (starEach [e] X.env)).all (fun x => !x.1) && (backToKw cpos (keywordEach [] X.env)).all (fun x => x.1.isSome)
    && decide (([e] : List Expr).length + ([] : List Keyword).length + (if ([] : List Keyword).isEmpty then 0 else 1) < 30)) = true
  line : (apos.endLine == cpos.line) = true
  trees : backTo cpos (starEach [e] X.env) = [(false, eval e X.env)]
structure M2 (X : Cx) (o : Expr) (m : Str) (apos : Pos) (e f : Expr) (cpos : Pos) : Prop where
  base : attributeBase o m X.env (eval o X.env) = eval o X.env
  few : ((backTo cpos (starEach [e, f] X.env)).all (fun x => !x.1) && (backToKw cpos (keywordEach [] X.env)).all (fun x => x.1.isSome)
    && decide (([e, f] : List Expr).length + ([] : List Keyword).length + (if ([] : List Keyword).isEmpty then 0 else 1) < 30)) = true
  line : (apos.endLine == cpos.line) = true
  trees : backTo cpos (starEach [e, f] X.env) = [(false, eval e X.env), (false, eval f X.env)]

/-- a is a dict, whatever its keys -/
def IsD (H : Hp) (a : Addr) : Prop := (∃ kvs, Rd H a (.dK kvs)) ∨ ∃ kvs, Rd H a (.dT kvs)
theorem isD_at {X : Cx} {pins : List (Addr × Obj)} {σ : St} {H : Hp} {s : Shared} {a : Addr} (I : Inv X pins σ H s) (d : IsD H a) :
    s.TypeIs (.ref a) "dict" ∧ (∀ b, Value.ref a = .ref b → ∃ ob, s.heap.get? b = some ob ∧ ob.dict = none) ∧ (a == sysModules) = false := by
  rcases d with ⟨kvs, e⟩ | ⟨kvs, e⟩
  · obtain ⟨_, hd, vs, _, dd⟩ := dk_rd I.hok e
    refine ⟨dd.typeIs, fun b q => ?_, hd⟩
    cases q
    obtain ⟨ob, _, _, h1, h2, _⟩ := dd
    exact ⟨ob, h1, h2.2.1⟩
  · obtain ⟨_, hd, xs, _, dd⟩ := dt_rd I.hok e
    refine ⟨dd.typeIs, fun b q => ?_, hd⟩
    cases q
    obtain ⟨ob, _, _, h1, h2, _⟩ := dd
    exact ⟨ob, h1, h2.2.1⟩

section
variable {X : Cx} {pins : List (Addr × Obj)} {σ : St} {H : Hp} {s : Shared} {a : Addr} {y d : V} {u r : Value} {o : Option V} {A : Around} {E : Value → Shared → Prop}
/-- d.get(y) -/
theorem d_get1 {Q : Value → Shared → Prop} (hu : A.units + 1 < cLine) (I : Inv X pins σ H s) (g : DGet H a y o) (ry : RelV y u) (h : ∀ w' s', Inv X pins σ H s' → RelV (o.getD .non) w' → Q w' s') :
    wpAny (model X.prog X.w) A (call (.builtin "dict.get") [.ref a, u]) Q E s := by
  rcases g with ⟨kvs, k, e, ey, l⟩ | ⟨kvs, k, b, e, ey, eb, l⟩
  · subst ey
    obtain ⟨z, hd, vs, rel, dd⟩ := dk_rd I.hok e
    refine call_meetsIn PySem.F.slot_dict_get dd.typeIs PySem.F.entry_dict_get (PySem.F.args_dict_get_2 _ _) (meets_dict_get (mixKind X.prog X.w) a (kV_is ry) hd) ⟨_, dd.mapOf, h _ _ (I.tok _) ?_⟩
    rw [l]
    exact (rel.val k).getD rfl
  · subst ey
    cases (show u = Value.ref b from ry)
    obtain ⟨z, hd, xs, rel, dd⟩ := dt_rd I.hok e
    refine call_meetsIn PySem.F.slot_dict_get dd.typeIs PySem.F.entry_dict_get (PySem.F.args_dict_get_2 _ _) (meetsH_dict_get (tupleKind (mixKind X.prog X.w)) a b hd) ⟨tupleKind_room_in1 hu, k, xs, key_of I.hok eb, dd, h _ _ (I.tok _) ?_⟩
    rw [l]
    exact (rel.val k).getD rfl
/-- d.get(y, x) -/
theorem d_get2 {Q : Value → Shared → Prop} (hu : A.units + 1 < cLine) (I : Inv X pins σ H s) (g : DGet H a y o) (ry : RelV y u) (rd : RelV d r) (h : ∀ w' s', Inv X pins σ H s' → RelV (o.getD d) w' → Q w' s') :
    wpAny (model X.prog X.w) A (call (.builtin "dict.get") [.ref a, u, r]) Q E s := by
  rcases g with ⟨kvs, k, e, ey, l⟩ | ⟨kvs, k, b, e, ey, eb, l⟩
  · subst ey
    obtain ⟨z, hd, vs, rel, dd⟩ := dk_rd I.hok e
    refine call_meetsIn PySem.F.slot_dict_get dd.typeIs PySem.F.entry_dict_get (PySem.F.args_dict_get_3 _ _ _) (meets_dict_get_default (mixKind X.prog X.w) a (kV_is ry) hd r) ⟨_, dd.mapOf, h _ _ (I.tok _) ?_⟩
    rw [l]
    exact (rel.val k).getD rd
  · subst ey
    cases (show u = Value.ref b from ry)
    obtain ⟨z, hd, xs, rel, dd⟩ := dt_rd I.hok e
    refine call_meetsIn PySem.F.slot_dict_get dd.typeIs PySem.F.entry_dict_get (PySem.F.args_dict_get_3 _ _ _) (meetsH_dict_get_default (tupleKind (mixKind X.prog X.w)) a b hd r) ⟨tupleKind_room_in1 hu, k, xs, key_of I.hok eb, dd, h _ _ (I.tok _) ?_⟩
    rw [l]
    exact (rel.val k).getD rd
end

def tDGet1 (td ty : TE) : TE := fun σ H Q => td σ H fun x H1 => ∃ a, x = .ref a ∧ IsD H1 a ∧ ty σ H1 fun y H2 => ∃ o, DGet H2 a y o ∧ Q (o.getD .non) H2
def tDGet2 (td ty tx : TE) : TE := fun σ H Q => td σ H fun x H1 => ∃ a, x = .ref a ∧ IsD H1 a ∧ ty σ H1 fun y H2 => tx σ H2 fun z H3 => ∃ o, DGet H3 a y o ∧ Q (o.getD z) H3
section
variable {X : Cx} {o e f : Expr} {apos cpos : Pos} {td ty tx : TE}
theorem pe_dget1 (hu : X.A.units + 1 < cLine) (ho : PE X o td) (he : PE X e ty) (m : M1 X o "get" apos e cpos) : PE X (.Call (.Attribute o "get" apos) [e] [] cpos) (tDGet1 td ty) := by
  intro pins s σ H Q I h
  refine wpAny_Call_method m.base m.few m.line PySem.F.plainAttrs_dict PySem.F.slot_dict_get PySem.F.type_dict_get (thn (ho pins s σ H _ I h) fun u s1 ⟨x, H1, I1, rx, a, ex, d, q1⟩ => ?_)
  subst ex
  obtain rfl : u = Value.ref a := rx
  obtain ⟨t1, t2, _⟩ := isD_at I1 d
  refine ⟨t1, t2, ?_⟩
  rw [m.trees]
  refine Calls.callWith_builtin rfl (Calls.evalArgs_plain (Calls.spliced_cons (thn (he pins s1 σ H1 _ I1 q1) fun iv s2 ⟨y, H2, I2, ry, ov, g, q2⟩ => Calls.spliced_nil ?_)))
  exact d_get1 hu I2 g ry fun w' s3 I3 rw' => ⟨_, H2, I3, rw', q2⟩
theorem pe_dget2 (hu : X.A.units + 1 < cLine) (ho : PE X o td) (he : PE X e ty) (hf : PE X f tx) (m : M2 X o "get" apos e f cpos) : PE X (.Call (.Attribute o "get" apos) [e, f] [] cpos) (tDGet2 td ty tx) := by
  intro pins s σ H Q I h
  refine wpAny_Call_method m.base m.few m.line PySem.F.plainAttrs_dict PySem.F.slot_dict_get PySem.F.type_dict_get (thn (ho pins s σ H _ I h) fun u s1 ⟨x, H1, I1, rx, a, ex, d, q1⟩ => ?_)
  subst ex
  obtain rfl : u = Value.ref a := rx
  obtain ⟨t1, t2, _⟩ := isD_at I1 d
  refine ⟨t1, t2, ?_⟩
  rw [m.trees]
  refine Calls.callWith_builtin rfl (Calls.evalArgs_plain (Calls.spliced_cons (thn (he pins s1 σ H1 _ I1 q1) fun iv s2 ⟨y, H2, I2, ry, q2⟩ =>
    Calls.spliced_cons (thn (hf pins s2 σ H2 _ I2 q2) fun fv s3 ⟨z, H3, I3, rz, ov, g, q3⟩ => Calls.spliced_nil ?_))))
  exact d_get2 hu I3 g ry rz fun w' s4 I4 rw' => ⟨_, H3, I4, rw', q3⟩
end

/-! ### dict(d): a copy -/
section
variable {X : Cx} {pins : List (Addr × Obj)} {σ : St} {H : Hp} {s : Shared} {a : Addr} {kvs : List (Key × V)} {A : Around} {E : Value → Shared → Prop}
end


section
variable {X : Cx} {pins : List (Addr × Obj)} {σ : St} {H : Hp} {s : Shared} {a : Addr} {y : V} {u : Value} {A : Around} {E : Value → Shared → Prop}
end
end L2
namespace L2
open PySem PySem.Spec PyProof.Rows
/-- items of a long display, and a value, a statement with such: shut, so that nobody looks into them -/
@[irreducible] def QA (X : Cx) (es : List Expr) (t : TA) : Prop := PA X es t
@[irreducible] def QE (X : Cx) (e : Expr) (t : TE) : Prop := PE X e t
@[irreducible] def QSs (X : Cx) (st : List Stmt) (t : TS) : Prop := PSs X st t
section
variable {X : Cx} {e : Expr} {es : List Expr} {te : TE} {t : TA} {pos : Pos} {ts us : TS} {st : Stmt} {rest : List Stmt}
theorem qe_of (h : PE X e te) : QE X e te := by unfold QE; exact h
theorem qa_nil : QA X [] tNil := by unfold QA; exact pa_nil
theorem qa_cons (ha : QE X e te) (hr : QA X es t) (h : notStar e = true) : QA X (e :: es) (tCons te t) := by
  unfold QA at hr ⊢
  unfold QE at ha
  exact pa_cons ha hr (star_ok h)
theorem qe_lst (h : QA X es t) : QE X (.List es pos) (tLst t) := by
  unfold QA at h
  exact qe_of (pe_lst h)
theorem pe_q (h : QE X e te) : PE X e te := by
  unfold QE at h
  exact h
end
end L2
namespace L2
open PySem PySem.Spec PyProof.Rows
@[irreducible] def QS (X : Cx) (st : Stmt) (t : TS) : Prop := PS X st t
section
variable {X : Cx} {e : Expr} {te : TE} {pos : Pos} {ts us : TS} {st : Stmt} {rest : List Stmt}
/-- a block, a statement at a time -/
theorem blk_cons {R : TS → Prop} (h1 : PS X st ts) (h2 : ∃ us, PSs X rest us ∧ R (tSeq ts us)) : ∃ t, PSs X (st :: rest) t ∧ R t := let ⟨_, a, b⟩ := h2; ⟨_, pss_cons h1 a, b⟩
end
end L2
namespace L2
open PySem PySem.Spec PyProof.Rows
/-! ### all(..) of a list of truths -/
section
variable {X : Cx}
/-- == within a suite -/
theorem op_eqDs {K : PySem.W.Frag} (hK : X.K = K) (hu : X.A.units + 64 < cLine) : OpR X (compareOp .Eq) (rEqD K fun b => b) := hK ▸ op_eqD hu
end
end L2
/-! A COMPREHENSION of lists that names locals of the def around (they are cells there): one clause, a plain name, no test -/
namespace L2
open PySem PySem.Spec PyProof.Rows
theorem relabel_lookup {env : Env} : ∀ {names : List (Str × NameKind)} {x : Str} {k : NameKind},
    (names.map fun (n, k) => if (k == NameKind.free && env.scope.kind == .function && env.kindOf n == some .cell) then (n, NameKind.cell) else (n, k)).lookup x = some k → ∃ k0, (x, k0) ∈ names ∧ (k = k0 ∨ k0 = .free)
  | [], _, _, h => by simp at h
  | (n, k1) :: r, x, k, h => by
    rw [List.map_cons] at h
    by_cases hx : x = n
    · subst hx
      refine ⟨k1, .head _, ?_⟩
      dsimp only at h
      split at h
      · rename_i hc
        simp only [Bool.and_eq_true, beq_iff_eq] at hc
        exact .inr hc.1.1
      · simp [List.lookup] at h
        exact .inl h.symm
    · have : (x == n) = false := by simpa using hx
      have h' : (r.map fun (n, k) => if (k == NameKind.free && env.scope.kind == .function && env.kindOf n == some .cell) then (n, NameKind.cell) else (n, k)).lookup x = some k := by
        dsimp only at h
        split at h <;> simpa [List.lookup, this] using h
      obtain ⟨k0, m, q⟩ := relabel_lookup h'
      exact ⟨k0, .tail _ m, q⟩
/-- the cells that the block takes along -/
def clOf (ys : List Str) (env : Env) : List (Str × Addr) := ys.map fun y => (y, (env.cells.lookup y).getD 0)
theorem clOf_mem {env : Env} : ∀ {ys : List Str} {y : Str} {c : Addr}, (clOf ys env).lookup y = some c → y ∈ ys ∧ c = (env.cells.lookup y).getD 0
  | [], _, _, h => by simp [clOf] at h
  | z :: r, y, c, h => by
    by_cases hy : y = z
    · subst hy
      simp [clOf, List.lookup] at h
      exact ⟨.head _, h.symm⟩
    · have hb : (y == z) = false := by simpa using hy
      have h' : (clOf r env).lookup y = some c := by simpa [clOf, List.lookup, hb] using h
      obtain ⟨m, e⟩ := clOf_mem h'
      exact ⟨.tail _ m, e⟩
theorem clOf_get {env : Env} : ∀ {ys : List Str} {y : Str}, y ∈ ys → (clOf ys env).lookup y = some ((env.cells.lookup y).getD 0)
  | z :: r, y, h => by
    by_cases hy : y = z
    · subst hy
      simp [clOf, List.lookup]
    · have hb : (y == z) = false := by simpa using hy
      have hm : y ∈ r := by
        rcases List.mem_cons.mp h with q | q
        · exact absurd q hy
        · exact q
      have := clOf_get (env := env) hm
      simpa [clOf, List.lookup, hb] using this
abbrev Cx.compF (X : Cx) (scope : Scope) (ys : List Str) (C : Addr) (x : Str) (s2 : Shared) (H2 : Hp) (fp : List Addr) : Cx :=
  { X with N := x :: ys, s₀ := s2, H₀ := H2, env := compEnvC scope (clOf ys X.env) C X.env, outer := X.stack, ex := fp, fn := fun _ => false, pn := [], xe := fun _ _ => False }
def tCompBF (J : It) (te : TE) (fr : St) (D : Addr) (R : Hp → Prop) (H1 : Hp) : Prop := ∃ W : Nat → Nat → Hp → Prop, (∃ m, W 0 m (upd H1 D (.lst []))) ∧
  ∀ i m H2, W i m H2 → (J.stop i H2 ∧ R H2) ∨ (J.go i H2 ∧ ∀ x H3, J.yld i H2 x H3 → te (some x :: fr) H3 fun y H4 => ∃ ys, H4 D = some (.lst ys) ∧ ys.length < sizeLine ∧ ∃ m', m' < m ∧ W (i + 1) m' (upd H4 D (.lst (ys ++ [y]))))
def takeS (js : List Nat) (σ : St) : St := js.map fun j => (σ[j]?).getD none
def tCompF (wi : TI) (te : TE) (js : List Nat) : TE := fun σ H Q => wi σ H fun J H1 => ∀ D, H1 D = none → tCompBF J te (takeS js σ) D (fun H2 => Q (.ref D) H2) H1
section
variable {X : Cx} {iter elt : Expr} {x : Str} {px pos : Pos} {scope : Scope} {te : TE} {wi : TI} {pins : List (Addr × Obj)} {σ : St} {ys : List Str} {js : List Nat}
theorem comp_coreF {s2 : Shared} {H2 : Hp} {it : Addr} {fp : List Addr} {tn : Nat → Heap → Prop} {J : It} (hc : X.calm = true)
    (he : ∀ (C : Addr) (s2 : Shared) (H2 : Hp) (fp : List Addr), PE (X.compF scope ys C x s2 H2 fp) elt te)
    (hcell : ∀ y ∈ scope.names, y.2 ≠ .cell) (hkind : scope.kind = .function) (hx : scope.names.lookup x = some .local) (hnd : (x :: ys).Nodup)
    (hfr : ∀ y ∈ scope.names, y.2 = .free → y.1 ∈ ys) (hyc : ∀ y ∈ ys, X.env.kindOf y = some .cell) (hrel : ∀ y ∈ ys, (relabel scope X.env).names.lookup y = some .cell) (hjs : js.map (fun j => X.N[j]?) = ys.map some)
    (I2 : Inv X pins σ H2 s2) (T : Turn X.prog X.w X.K (.Name x px) J fp it tn) (st2 : tn 0 s2.heap) (f2 : ∀ b ∈ fp, FpOk X pins H2 b)
    {R : Addr → Hp → Prop} (h : ∀ D, H2 D = none → tCompBF J te (takeS js σ) D (R D) H2) {RR : Value → Addr → Result → Shared → Prop} {E : Value → Shared → Prop}
    (hR : ∀ (D C : Addr) (H' : Hp) (s' : Shared) (m : Str → Option Value), FpOk X pins H' C → s'.heap.Ns C m → Inv X pins σ H' s' → R D H' → RR (.ref D) C (.ok .next) s') :
    wpAny (model X.prog X.w) X.A (newList []) (fun acc s₃ => wpAny (model X.prog X.w) X.A (newFunctionEnv scope X.env.globals (clOf ys X.env) [] X.env.qual none .none (some X.env)) (fun cenv s₄ =>
      codeAny (model X.prog X.w) X.A (.compStart (.ListComp elt [⟨.Name x px, iter, [], 0⟩] scope pos) 0 (.ref it) acc { cenv with scope := relabel scope X.env }) (RR acc cenv.locals) s₄) E s₃) E s2 := by
  have hsub : ∀ y c, (clOf ys X.env).lookup y = some c → X.env.cells.lookup y = some c := fun y c e => by
    obtain ⟨m, rfl⟩ := clOf_mem e
    obtain ⟨c', q⟩ := I2.ok.has y (.inl (hyc y m))
    rw [q]
    rfl
  refine wpAny_newObj_type (wpAny_newFunctionEnv hcell (by intro y hy; simp at hy) (fun h₁ hns₁ hsb₁ => ?_) hkind)
  dsimp only at hns₁ hsb₁ ⊢
  generalize hH2 : s2.heap.push { cls := .type "list", dict := none, data := .seq ([] : List Value).toArray } = G at hns₁ hsb₁ ⊢
  have hC : G.objs.size = s2.heap.objs.size + 1 := by rw [← hH2, Heap.size_push]
  have hDC : s2.heap.objs.size ≠ G.objs.size := by rw [hC]; exact Nat.ne_of_lt (Nat.lt_succ_self _)
  have hCle : s2.heap.objs.size ≤ G.objs.size := by rw [hC]; exact Nat.le_succ _
  have below : ∀ b, b < s2.heap.objs.size → b ≠ G.objs.size ∧ b ≠ s2.heap.objs.size := fun b hb => ⟨by rw [hC]; exact Nat.ne_of_lt (Nat.lt_succ_of_lt hb), Nat.ne_of_lt hb⟩
  have old : ∀ b o, s2.heap.get? b = some o → h₁.get? b = some o := fun b o e => hsb₁.extBut b o (below b (Heap.lt_size e)).1 (Heap.get?_push_of_some _ (hH2 ▸ Heap.get?_push_of_some _ e))
  have hacc : h₁.get? s2.heap.objs.size = some { cls := .type "list", data := .seq ([] : List Value).toArray } := hsb₁.extBut _ _ hDC (Heap.get?_push_of_some _ (hH2 ▸ Heap.get?_push_size _ rfl))
  have fpl : ∀ b ∈ fp, b < s2.heap.objs.size := fun b hb => let ⟨_, e, _⟩ := T.obj 0 _ st2 b hb; Heap.lt_size e
  have fpS : ∀ b ∈ fp, b ∉ frs X.stack := fun b hb z => (List.mem_cons.mp (I2.stkSub b z)).elim (f2 b hb).2.1 (f2 b hb).2.2.1
  have nC : H2 G.objs.size = none := I2.hok.fresh hCle
  have nD : H2 s2.heap.objs.size = none := I2.hok.fresh (Nat.le_refl _)
  have cellOld : ∀ y c, (clOf ys X.env).lookup y = some c → ∃ v o, s2.heap.get? c = some o ∧ o.data = .cell v := fun y c e => by
    obtain ⟨v, o, q1, q2⟩ := I2.cell y c (hsub y c e)
    exact ⟨v, o, q1, q2⟩
  have okC : (X.compF scope ys G.objs.size x s2 H2 fp).Ok := by
    refine ⟨I2.ok.mod, hkind, I2.ok.glob, I2.ok.blt, hCle, fun y z c e e' => I2.ok.inj y z c (hsub y c e) (hsub z c e'), fun y e => ?_, fun y c z e => (by cases z), I2.ok.hd, I2.ok.frames, .inl rfl, fun b hb => ⟨(below b (fpl b hb)).1, fun y c e => (f2 b hb).2.2.2.2.1 y c (hsub y c e)⟩, I2.bs, ?_, fun b o e hb => ?_, fun b hb => fpS b hb, I2.stack, I2.stkFree⟩
    · have e' : (relabel scope X.env).names.lookup y = some .cell ∨ (relabel scope X.env).names.lookup y = some .free := e
      have hin : y ∈ ys := by
        rcases e' with e' | e'
        · obtain ⟨k0, m, q⟩ := relabel_lookup e'
          rcases q with q | q
          · exact absurd q.symm (hcell _ m)
          · exact hfr _ m q
        · obtain ⟨k0, m, q⟩ := relabel_lookup e'
          rcases q with q | q
          · exact hfr _ m q.symm
          · exact hfr _ m q
      exact ⟨_, clOf_get hin⟩
    · exact Nat.le_trans I2.ok.bsz I2.sz
    · rcases (f2 b hb).2.2.2.1 with z | z
      · exact I2.ok.noex b o e z
      · exact absurd (Nat.lt_of_lt_of_le (Heap.lt_size (I2.ok.bs b o e).1) z) (Nat.lt_irrefl _)
  have hlen : (takeS js σ).length = ys.length := by
    have := congrArg List.length hjs
    simpa [takeS] using this
  have I3 : ∀ tk, Inv (X.compF scope ys G.objs.size x s2 H2 fp) [] (none :: takeS js σ) (upd H2 s2.heap.objs.size (.lst [])) { s2 with heap := h₁, toks := tk } := fun tk =>
    ⟨okC, rfl, I2.bare, Un.laid old (Nat.le_refl _) nD, ⟨_, hns₁, fun i y v e1 e2 e3 => by
        cases i with
        | zero => cases e2
        | succ i =>
          have e1 : ys[i]? = some y := by simpa using e1
          have e2 : (takeS js σ)[i]? = some (some v) := by simpa using e2
          have hy : y ∈ ys := List.mem_of_getElem? e1
          have ej := congrArg (fun l => l[i]?) hjs
          simp only [List.getElem?_map, e1, Option.map_some] at ej
          cases q : js[i]? with
          | none => rw [q] at ej; cases ej
          | some j =>
            rw [q] at ej
            have ej : X.N[j]? = some y := by simpa using ej
            have es : σ[j]? = some (some v) := by
              simp only [takeS, List.getElem?_map, q, Option.map_some, Option.some.injEq] at e2
              cases r : σ[j]? with
              | none => rw [r] at e2; cases e2
              | some w' => rw [r] at e2; rw [show w' = some v from e2]
            obtain ⟨m0, _, hl0⟩ := I2.loc
            obtain ⟨u, ru, lk⟩ := hl0 j y v ej es (.inr (.inl (hyc y hy)))
            refine ⟨u, ru, .inr ⟨.inl (hrel y hy), ?_⟩⟩
            rcases lk with ⟨k1, _⟩ | ⟨_, c, ec, o, ho, hd⟩
            · rw [hyc y hy] at k1; cases k1
            · refine ⟨c, ?_, o, old c o ho, hd⟩
              show (clOf ys X.env).lookup y = some c
              rw [clOf_get hy, ec]
              rfl⟩, fun y c e => (by
        obtain ⟨v, o, q1, q2⟩ := cellOld y c e
        exact ⟨v, o, old c o q1, q2⟩), (by show upd H2 s2.heap.objs.size _ G.objs.size = none; rw [upd_ne hDC.symm]; exact nC), fun y c e => (by
        obtain ⟨v, o, q1, q2⟩ := cellOld y c e
        show upd H2 s2.heap.objs.size _ c = none
        rw [upd_ne (below c (Heap.lt_size q1)).2]
        exact I2.freeC y c (hsub y c e)), fun p hp => (by simp at hp),
      I2.hok.laid old (Nat.le_refl _) ⟨Nat.zero_le _, [], _, .nil, hacc⟩, by show (none :: takeS js σ).length = (x :: ys).length; simp [hlen]⟩
  have stat : ∀ {H' : Hp}, (∀ b ∈ fp, H' b = none) → ∀ b ∈ fp, FpOk (X.compF scope ys G.objs.size x s2 H2 fp) [] H' b := fun hn b hb => ⟨hn b hb, (below b (fpl b hb)).1, fpS b hb, .inl hb, fun y c e => (f2 b hb).2.2.2.2.1 y c (hsub y c e), fun p hp => (by simp at hp)⟩
  have loop : ∀ tk, codeAny (model X.prog X.w) X.A (.compLoop (.ListComp elt [⟨.Name x px, iter, [], 0⟩] scope pos) 0 (.ref it) (.ref s2.heap.objs.size) (compEnvC scope (clOf ys X.env) G.objs.size X.env)) (RR (.ref s2.heap.objs.size) G.objs.size) { s2 with heap := h₁, toks := tk } := by
    intro tk
    obtain ⟨W, ⟨m0, w0⟩, turn⟩ := h s2.heap.objs.size nD
    refine codeAny_loop rfl (fun n s' => ∃ i v H', Inv (X.compF scope ys G.objs.size x s2 H2 fp) [] (v :: takeS js σ) H' s' ∧ tn i s'.heap ∧ (∀ b ∈ fp, H' b = none) ∧ W i n H') (fun n s' hI => ?_) m0
      ⟨0, none, _, I3 tk, T.keep 0 _ _ st2 (fun b hb o e => old b o e), fun b hb => (by rw [upd_ne (below b (fpl b hb)).2]; exact (f2 b hb).1), w0⟩
    obtain ⟨i, v, H', I, st, fr, w⟩ := hI
    show wpAny _ _ ((compTurn (.ListComp elt [⟨.Name x px, iter, [], 0⟩] scope pos) 0 (.ref it) (.ref s2.heap.objs.size) (compEnvC scope (clOf ys X.env) G.objs.size X.env)).onRaise (fun x => do noteFrame x (compEnvC scope (clOf ys X.env) G.objs.size X.env); theTreesLotGoes x)) _ _ s'
    refine wpAny_noted ?_
    rw [compTurn_list1]
    refine wpAny_bind (wpAny_standAt (wpAny_bind ?_))
    rcases turn i n H' w with ⟨stop, q⟩ | ⟨go, step⟩
    · refine thn (T.done (X.compF scope ys G.objs.size x s2 H2 fp) rfl rfl rfl hc i [] s' (v :: takeS js σ) H' _ I (stat fr) st stop) fun r s4 ⟨hr, I4⟩ => ?_
      subst hr
      refine wpAny_pure ?_
      obtain ⟨m, hn, _⟩ := I4.loc
      exact hR _ _ H' s4 m (I2.fpOk hCle I4.free) hn (I2.call' (ch := fp) I4.os I4.base I4.hok I4.bare fun b hb => ⟨(f2 b hb).2.2.2.1, (f2 b hb).2.1, (f2 b hb).2.2.2.2.1, (f2 b hb).2.2.2.2.2⟩) q
    · refine thn (T.item (X.compF scope ys G.objs.size x s2 H2 fp) rfl rfl rfl hc i [] s' (v :: takeS js σ) H' _ I (stat fr) st go) fun r s4 ⟨u, hr, h4⟩ => ?_
      subst hr
      refine wpAny_bind (thn h4 fun _ s5 ⟨y, H5, I5, r5, y5, st5, fr5⟩ => wpAny_bind ?_)
      have I5' := I5.pinned (stat fr5) (T.obj _ _ st5)
      refine wpAny_assign_Name (store_ok (i := 0) I5' hnd rfl (Or.inl (lookup_relabel_local hx)) r5 (fun s6 I6 => ?_) (Or.inr (lookup_relabel_local hx)))
      refine wpAny_bind (wpAny_bind (thnF (he _ _ _ _ _ s6 (some y :: takeS js σ) H5 _ I6 (step y H5 y5)) fun u2 s7 ⟨y2, H7, I7, r7, zs, hD, hl, m', hm, w'⟩ => wpAny_bind ?_))
      refine thnF (mt_append _ s7 (some y :: takeS js σ) H7 (.ref s2.heap.objs.size) [y2] (.ref s2.heap.objs.size) [u2] (fun _ H8 => H8 = upd H7 s2.heap.objs.size (.lst (zs ++ [y2]))) I7 rfl (.cons r7 .nil) ⟨_, zs, y2, rfl, rfl, hD, hl, rfl⟩) fun _ s8 ⟨_, H8, I8, _, e8⟩ => ?_
      subst e8
      have pin : ∀ b ∈ fp, ∀ o, s5.heap.get? b = some o → s8.heap.get? b = some o ∧ upd H7 s2.heap.objs.size (HO.lst (zs ++ [y2])) b = none := fun b hb o e =>
        ⟨(I8.pin (b, o) (List.mem_append_right _ (List.mem_append_right _ (mem_pinsAt hb e)))).1, (I8.pin (b, o) (List.mem_append_right _ (List.mem_append_right _ (mem_pinsAt hb e)))).2.1⟩
      refine wpAny_pure (wpAny_pure ⟨rfl, m', hm, i + 1, some y, _, I8.unpinned, T.keep _ _ _ st5 fun b hb o e => (pin b hb o e).1, fun b hb => ?_, w'⟩)
      obtain ⟨o, e, d⟩ := T.obj _ _ st5 b hb
      exact (pin b hb o e).2
  exact codeAny_compStart_list (loop _) (T.self X.A 0 _ _ _ (T.keep 0 _ _ st2 (fun b hb o e => old b o e)) (loop _))
/-- a comprehension as a value -/
theorem pe_compF (hc : X.calm = true) (hi : PI X (.Name x px) iter wi) (he : ∀ (C : Addr) (s2 : Shared) (H2 : Hp) (fp : List Addr), PE (X.compF scope ys C x s2 H2 fp) elt te) (hjs : js.map (fun j => X.N[j]?) = ys.map some)
    (hclos : closureFor scope X.env = pure (clOf ys X.env)) (hnd : (x :: ys).Nodup := by decide) (hyc : ∀ y ∈ ys, X.env.kindOf y = some .cell) (hrel : ∀ y ∈ ys, (relabel scope X.env).names.lookup y = some .cell)
    (hfr : ∀ y ∈ scope.names, y.2 = .free → y.1 ∈ ys := by decide +kernel) (hcell : ∀ y ∈ scope.names, y.2 ≠ .cell := by decide +kernel) (hkind : scope.kind = .function := by rfl)
    (hnames : ∀ y ∈ scope.names, y.2 = .local → scope.names.lookup y.1 = some .local := by decide +kernel) (hx : scope.names.lookup x = some .local := by rfl) (hs : ∀ x, foldedSetIterable iter X.env x = pure x := by intro _; rfl) :
    PE X (.ListComp elt [⟨.Name x px, iter, [], 0⟩] scope pos) (tCompF wi te js) := by
  intro pins s σ H Q I h
  rw [eval_ListComp]
  refine wpAny_comprehension_free (use := none) rfl hs hclos hkind hnames (thn (hi pins s σ H _ I h) fun v s1 h1 => thn h1 fun itv s2 h2 => ?_)
  obtain ⟨it, fp, tn, J, H2, e, I2, T, st2, f2, h⟩ := h2
  subst e
  refine comp_coreF (R := fun D H' => Q (.ref D) H') (RR := compPost (model X.prog X.w) X.A X.xe none (EP X pins σ Q)) hc he hcell hkind hx hnd hfr hyc hrel hjs I2 T st2 f2 h ?_
  intro D C H' s' m f hn I' q
  refine ⟨m, hn, fun h' sb => ⟨.ref D, H', ?_, rfl, q⟩⟩
  exact I'.turned (t' := s'.toks) (fun b o hb e => sb.extBut b o hb e) f.1 f.2.1 f.2.2.2.1 f.2.2.2.2.1 f.2.2.2.2.2
/-- name = a comprehension -/
theorem ps_compF {i : Nat} {y : Str} {py spos : Pos} (hN : X.N.Nodup) (hy : X.N[i]? = some y) (hl : X.env.scope.names.lookup y = some .local) (hc : X.calm = true) (hi : PI X (.Name x px) iter wi)
    (he : ∀ (C : Addr) (s2 : Shared) (H2 : Hp) (fp : List Addr), PE (X.compF scope ys C x s2 H2 fp) elt te) (hjs : js.map (fun j => X.N[j]?) = ys.map some)
    (hclos : closureFor scope X.env = pure (clOf ys X.env)) (hyc : ∀ y ∈ ys, X.env.kindOf y = some .cell) (hrel : ∀ y ∈ ys, (relabel scope X.env).names.lookup y = some .cell)
    (hsw : swapsWith (.ListComp elt [⟨.Name x px, iter, [], 0⟩] scope pos) (some (.Name y py)) spos.line X.env = pure true := by rfl) (hnd : (x :: ys).Nodup := by decide)
    (hfr : ∀ y ∈ scope.names, y.2 = .free → y.1 ∈ ys := by decide +kernel) (hcell : ∀ y ∈ scope.names, y.2 ≠ .cell := by decide +kernel) (hkind : scope.kind = .function := by rfl)
    (hnames : ∀ y ∈ scope.names, y.2 = .local → scope.names.lookup y.1 = some .local := by decide +kernel) (hx : scope.names.lookup x = some .local := by rfl) (hs : ∀ x, foldedSetIterable iter X.env x = pure x := by intro _; rfl) :
    PS X (.Assign [.Name y py] (.ListComp elt [⟨.Name x px, iter, [], 0⟩] scope pos) spos) (tAsg (tCompF wi te js) (gName i)) := by
  intro pins s σ H D0 I h
  rw [exec_Assign_Name_used _ _ _ _ hsw]
  refine wpAny_bind (wpAny_standAt (wpAny_bind ?_))
  show wpAny _ X.A (do let _ ← comprehension (.ListComp elt [⟨.Name x px, iter, [], 0⟩] scope pos) scope X.env _ (newList []) false (eval iter X.env) (some (assign (.Name y py) X.env))) _ _ s
  refine wpAny_bind (wpAny_mono (wpAny_comprehension_free (use := some (assign (.Name y py) X.env)) (Q := fun _ s' => SP X pins D0 .next s') rfl hs hclos hkind hnames (thn (hi pins s σ H _ I h) fun v s1 h1 => thn h1 fun itv s2 h2 => ?_)) (fun _ s' hq => wpAny_pure (wpAny_pure hq)) fun _ _ e => e)
  obtain ⟨it, fp, tn, J, H2, e, I2, T, st2, f2, h⟩ := h2
  subst e
  refine comp_coreF (R := fun D H' => gName i (.ref D) σ H' D0.nx) (RR := compPost (model X.prog X.w) X.A X.xe (some (assign (.Name y py) X.env)) (fun _ s' => SP X pins D0 .next s')) hc he hcell hkind hx hnd hfr hyc hrel hjs I2 T st2 f2 h ?_
  intro D C H' s' m f hn I' q
  refine wpAny_assign_Name (store_ok2 (v := V.ref D) I' hN hy (Or.inl hl) rfl (fun s'' I'' k'' => ?_) (Or.inr hl))
  refine ⟨m, ?_, fun h' sb => ⟨_, H', ?_, q⟩⟩
  · obtain ⟨b, sb, hb⟩ := k''
    refine hn.sameBut sb fun z => ?_
    rcases hb with hb | hb
    · exact f.2.1 (z.trans hb)
    · exact f.2.2.2.2.1 y b hb z.symm
  · exact I''.turned (t' := s''.toks) (fun b o hb e => sb.extBut b o hb e) f.1 f.2.1 f.2.2.2.1 f.2.2.2.2.1 f.2.2.2.2.2
theorem i_compF {H : Hp} {Q : VK} (h : wi σ H fun J H1 => ∀ D, H1 D = none → tCompBF J te (takeS js σ) D (fun H2 => Q (.ref D) H2) H1) : tCompF wi te js σ H Q := h
/-- over a list that the block leaves as it is -/
theorem compF_list {K : PySem.W.Frag} {a D : Addr} {xs : List V} {te : TE} {fr : St} {R : Hp → Prop} {H1 : Hp} (Pv : Nat → Hp → Prop) (h0 : Pv 0 (upd H1 D (.lst []))) (hl : ∀ i H, i ≤ xs.length → Pv i H → SqL K H a xs)
    (hs : ∀ i x H, xs[i]? = some x → i < xs.length → Pv i H → te (some x :: fr) H fun y H4 => ∃ ys, H4 D = some (.lst ys) ∧ ys.length < sizeLine ∧ ∃ m', m' < xs.length - i ∧ cW xs.length Pv (i + 1) m' (upd H4 D (.lst (ys ++ [y]))))
    (hd : ∀ H, Pv xs.length H → R H) : tCompBF (Itl K a) te fr D R H1 := by
  refine ⟨cW xs.length Pv, ⟨xs.length, by simp, Nat.zero_le _, h0⟩, ?_⟩
  rintro i m H ⟨rfl, hi, p⟩
  have q := hl i H hi p
  by_cases hlt : i < xs.length
  · refine .inr ⟨⟨xs, xs[i], q, by simp [hlt]⟩, fun x H' y => ?_⟩
    obtain ⟨e, y⟩ := y
    subst e
    exact hs i x _ (y xs q) hlt p
  · have e : i = xs.length := by omega
    subst e
    exact .inl ⟨⟨xs, q, Nat.le_refl _⟩, hd H p⟩
end
end L2
namespace L2
theorem all_nil {α : Type} {P : α → Prop} : ∀ y ∈ ([] : List α), P y := fun _ h => nomatch h
theorem all_cons {α : Type} {P : α → Prop} {y : α} {r : List α} (h : P y) (t : ∀ z ∈ r, P z) : ∀ z ∈ y :: r, P z := fun z hz => by
  rcases List.mem_cons.mp hz with e | hz
  · exact e ▸ h
  · exact t z hz
end L2
/-! for k, x in enumerate(xs); sum(..) of a list of ints -/
namespace L2
open PySem PySem.Spec PyProof.Rows
/-- the pairs of the list at a -/
def Ite (K : PySem.W.Frag) (a : Addr) : It :=
  ⟨fun i H => ∃ xs x, SqL K H a xs ∧ xs[i]? = some x, fun i H y H' => ∃ t x, y = .ref t ∧ H t = none ∧ H' = upd H t (.tup [.int i, x]) ∧ ∀ xs, SqL K H a xs → xs[i]? = some x, fun i H => ∃ xs, SqL K H a xs ∧ xs.length ≤ i⟩
theorem list_ne_fp {X : Cx} {pins : List (Addr × Obj)} {σ : St} {H : Hp} {s : Shared} {a b : Addr} {its : List Value} {o : Obj} (p : PlainL s.heap a its.toArray) (ho : s.heap.get? b = some o) (hc : o.cls ≠ .type "list") (_ : Inv X pins σ H s) : a ≠ b := by
  rintro rfl
  obtain ⟨o', e, c, _⟩ := p.isList
  rw [ho] at e
  cases e
  exact hc c
section
variable {prog : Program} {w : World} {A : Around} {E : Value → Shared → Prop} {s : Shared}
/-- the list has come to its end (or is shorter) -/
theorem enum_end {e it l : Addr} {i : Nat} {items : Array Value} {old : Value} {Q : Option Value → Shared → Prop} (hh : A.in1.handled = none) (he : IsEnum s.heap e it i old) (hit : s.heap.IsListIter it l i) (hl : s.heap.IsList l items)
    (hx : items[i]? = none) (hQ : ∀ h', Heap.ExtBut it s.heap h' → Q none { s with heap := h' }) : wpAny (model prog w) A (pyNext (.ref e)) Q E s := by
  have hT : s.TypeIs (.ref e) "enumerate" := ⟨_, he, rfl⟩
  unfold pyNext
  refine wpAny_bind (wpAny_attempt (wpAny_callSpecial?_slot (name := Str.ofString "__next__") hT F.slot_enumerate_next
    (wpAny_call_entry F.slot_enumerate_next hT F.entry_enumerate_next ?_ (F.args_enumerate_next_1 _))))
  show wpAny _ _ (field (.ref e) 2 >>= _) _ _ _
  refine wpAny_bind (wpAny_field he rfl (x := .ref it) rfl ?_)
  refine wpAny_bind (wpAny_nextOf_list_end hh hit hl hx fun h' x he' hx' => ?_)
  obtain ⟨o, ho, hc⟩ := hx'
  refine wpAny_bind (wpAny_isInstance (T := "StopIteration") (b := true) ⟨o, ho, hc⟩ isSubtype_stop ?_)
  exact wpAny_pure (hQ _ he')
end
theorem turn_enum {P : Program} {w : World} {K : PySem.W.Frag} {elts : List Expr} {x1} {tpos : Pos} (a e it : Addr) (hei : e ≠ it) :
    Turn P w K (.Tuple elts x1 tpos) (Ite K a) [e, it] e (fun i h => (∃ old, IsEnum h e it i old) ∧ h.IsListIter it a i) where
  mem := by simp
  obj := fun i h st b hb => by
    obtain ⟨⟨old, he⟩, o, ho, _, hd⟩ := st
    rcases List.mem_cons.mp hb with rfl | hb
    · exact ⟨_, he, fun v z => by cases z⟩
    · rw [List.mem_singleton.mp hb]
      exact ⟨o, ho, fun v z => by rw [hd] at z; cases z⟩
  keep := fun i h h' st k => by
    obtain ⟨⟨old, he⟩, hi⟩ := st
    exact ⟨⟨old, k e (by simp) _ he⟩, hi.at fun o z => k it (by simp) o z⟩
  item := by
    intro X hP hw hK hc i pins s σ H E I hf st hg
    subst hP hw hK
    obtain ⟨xs, x, hq, hx⟩ := hg
    obtain ⟨its, rv, p, hz⟩ := I.list hq
    obtain ⟨u, hu, ru⟩ := rv.get hx
    obtain ⟨⟨old, he⟩, hit⟩ := st
    have fe := hf e (by simp)
    have fi := hf it (by simp)
    have hai : a ≠ it := by
      obtain ⟨o, ho, c, _⟩ := id hit
      exact list_ne_fp p ho (by rw [c]; decide) I
    have hae : a ≠ e := list_ne_fp p he (show Value.type "enumerate" ≠ Value.type "list" by decide) I
    have hlt : i < its.toArray.size := by
      rw [List.size_toArray]
      exact (List.getElem?_eq_some_iff.mp hu).1
    refine wpAny_pyNext_enum_itemD (Draws.list (A := X.A.in1) (show X.A.handled = none from I.ok.hd hc) it a hai its.toArray) he ⟨hit, p.isList⟩ hlt hei (by simp [hei, Ne.symm hae]) fun v h' tk hv ho st' ht hsz hk => ?_
    have hv : its[i]? = some v := by simpa using hv
    rw [hu] at hv
    cases hv
    refine ⟨_, rfl, wpAny_letOwnedTupleGo_enum ho fun h'' he'' hs'' => ?_⟩
    have hTn : H s.heap.objs.size = none := I.hok.fresh (Nat.le_refl _)
    have elt : e < s.heap.objs.size := Heap.lt_size he
    have ilt : it < s.heap.objs.size := by obtain ⟨o, z, _⟩ := id hit; exact Heap.lt_size z
    have keep : ∀ b o, b ≠ e → b ≠ it → s.heap.get? b = some o → h''.get? b = some o := fun b o n1 n2 z => (hs''.2 b n1).trans (hk b o n1 n2 z)
    have htup : h''.get? s.heap.objs.size = some { cls := .type "tuple", data := .seq #[.int i tk, u] } := (hs''.2 _ (Nat.ne_of_gt elt)).trans ht
    have hit'' : h''.IsListIter it a (i + 1) := st'.1.at fun o z => (hs''.2 it (Ne.symm hei)).trans z
    have nt : ∀ {b v}, H b = some v → b ≠ e ∧ b ≠ it := fun {b v} z => ⟨fun q => (by rw [q, fe.1] at z; cases z), fun q => (by rw [q, fi.1] at z; cases z)⟩
    have hok : HOk X.prog X.w (upd H s.heap.objs.size (.tup [.int i, x])) h'' := fun b o z => by
      by_cases hb : b = s.heap.objs.size
      · subst hb
        rw [upd_same] at z
        cases z
        exact ⟨by show 2 ≤ sizeLine; decide, [.int i tk, u], .cons ⟨tk, rfl⟩ (.cons ru .nil), ⟨_, htup, rfl, _, rfl⟩⟩
      · rw [upd_ne hb] at z
        refine (I.hok b o z).stay (fun c v hc' q => ?_) (fun c q => by rw [upd_ne (ne_of_none q hTn)]; exact q) fun c ys q => by rw [upd_ne (ne_of_none q hTn)]; exact q
        obtain ⟨n1, n2⟩ : c ≠ e ∧ c ≠ it := by
          rcases hc' with rfl | hc'
          · exact nt z
          · exact nt hc'
        exact keep c v n1 n2 q
    have un : Un (frs X.stack) [e, it] H (upd H s.heap.objs.size (.tup [.int i, x])) s.heap h'' := by
      have nm : ∀ {b}, b ∉ [e, it] → b ≠ e ∧ b ≠ it := fun hb => ⟨fun z => hb (by simp [z]), fun z => hb (by simp [z])⟩
      refine ⟨fun b o z n _ hx => keep b o (nm hx).1 (nm hx).2 z, fun b o z n _ hx => ⟨o.slots, keep b o (nm hx).1 (nm hx).2 z⟩, fun b o z n _ => by rw [upd_ne (Nat.ne_of_lt (Heap.lt_size z))]; exact n, fun b o z hx => ⟨o, keep b o (nm hx).1 (nm hx).2 z⟩,
        fun b ys z => by rw [upd_ne (ne_of_none z hTn)]; exact z, fun b o v z => by rw [upd_ne (ne_of_none z hTn)]; exact z, fun b ps z => ⟨#[], by rw [upd_ne (ne_of_none z hTn), z]; simp⟩⟩
    have I1 : Inv X pins σ (upd H s.heap.objs.size (.tup [.int i, x])) { s with heap := h'', toks := tk + 1 } := I.call' (s' := { s with heap := h'', toks := tk + 1 }) rfl un hok I.bare fun b hb => by
      have f := hf b hb
      exact ⟨f.2.2.2.1, f.2.1, f.2.2.2.2.1, f.2.2.2.2.2⟩
    refine ⟨.ref s.heap.objs.size, _, I1, rfl, ⟨_, x, rfl, hTn, rfl, fun ys hy => by rw [I.list_inj hy hq]; exact hx⟩, ⟨⟨u, ?_⟩, hit''⟩, fun b hb => ?_⟩
    · have : ((i + 1 : Nat) : Int) = (i : Int) + 1 := by omega
      rw [this]
      exact he''
    · rw [upd_ne (fun q => ?_)]
      · exact (hf b hb).1
      · rcases List.mem_cons.mp hb with rfl | hb
        · exact absurd q (Nat.ne_of_lt elt)
        · rw [List.mem_singleton.mp hb] at q
          exact absurd q (Nat.ne_of_lt ilt)
  done := by
    intro X hP hw hK hc i pins s σ H E I hf st hg
    subst hP hw hK
    obtain ⟨xs, hq, hx⟩ := hg
    obtain ⟨its, rv, p, hz⟩ := I.list hq
    obtain ⟨⟨old, he⟩, hit⟩ := st
    have fi := hf it (by simp)
    have hai : a ≠ it := by
      obtain ⟨o, ho, c, _⟩ := id hit
      exact list_ne_fp p ho (by rw [c]; decide) I
    have hl := rv.length
    exact enum_end (show X.A.in1.handled = none from I.ok.hd hc) he hit p.isList (by simp; omega) fun h' eb => ⟨rfl, I.turned (t' := s.toks) (fun b o hb e => eb b o hb e) fi.1 fi.2.1 fi.2.2.2.1 fi.2.2.2.2.1 fi.2.2.2.2.2⟩
  self := fun _ _ _ _ _ st h => let ⟨⟨_, he⟩, _⟩ := st; wpAny_pyIter_enum he h
section
variable {X : Cx}
def iEnum (K : PySem.W.Frag) (ta : TA) : TI := fun σ H R => ta σ H fun vs H1 => ∃ a, vs = [.ref a] ∧ (∃ xs, SqL K H1 a xs) ∧ R (Ite K a) H1
theorem pi_enum {elts : List Expr} {x1} {tpos : Pos} {l : Expr} {ta : TA} {p pos : Pos} (hg : Gl X "enumerate") (hm : X.mg "enumerate" = none) (ha : PA X [l] ta) (hs : starEach [l] X.env = [(false, eval l X.env)] := by rfl) :
    PI X (.Tuple elts x1 tpos) (.Call (.Name "enumerate" p) [l] [] pos) (iEnum X.K ta) := by
  intro pins s σ H R I h
  refine Call_ (ld_blt I hg hm (show bootBuiltins "enumerate" = some (.type "enumerate") by decide +kernel) (PyProof.Rows.callWith_type1 (thn (ha pos pins s σ H _ I h) fun us s1 ⟨vs, H1, I1, r1, q1⟩ => ?_) hs rfl))
  obtain ⟨a, e, ⟨xs, hq⟩, q⟩ := q1
  subst e
  cases r1 with
  | cons r rr =>
    cases rr
    cases r
    obtain ⟨its, rv, pl, hz⟩ := I1.list hq
    refine call_enumerate_list pl.isList fun h' he hit hsz hk => ?_
    refine wpAny_pyIter_enum he ?_
    refine ⟨s1.heap.objs.size + 1, [s1.heap.objs.size + 1, s1.heap.objs.size], _, _, H1, rfl, I1.kept (t' := s1.toks) hk, turn_enum a _ _ (Nat.succ_ne_self _), ⟨⟨_, he⟩, hit⟩, fun b hb => ?_, q⟩
    have hb : s1.heap.objs.size ≤ b := by
      rcases List.mem_cons.mp hb with rfl | hb
      · exact Nat.le_succ _
      · rw [List.mem_singleton.mp hb]
        exact Nat.le_refl _
    exact I1.fpOk hb (I1.hok.fresh hb)
theorem i_iEnum {K : PySem.W.Frag} {ta : TA} {σ : St} {H : Hp} {R : It → Hp → Prop} (h : ta σ H fun vs H1 => ∃ a, vs = [.ref a] ∧ (∃ xs, SqL K H1 a xs) ∧ R (Ite K a) H1) : iEnum K ta σ H R := h
/-- the loop, by an invariant; t: the pair's new tuple -/
theorem for_enum {K : PySem.W.Frag} {a : Addr} {xs : List V} {g : TG} {tb : TS} {D : Ends} {σ : St} {H : Hp} (Pv : Nat → St → Hp → Prop) (h0 : Pv 0 σ H) (hl : ∀ i σ H, i ≤ xs.length → Pv i σ H → SqL K H a xs)
    (hs : ∀ i x σ H t, xs[i]? = some x → Pv i σ H → H t = none → g (.ref t) σ (upd H t (.tup [.int i, x])) fun σ2 H2 => tb { D with nx := Pv (i + 1), ct := Pv (i + 1), bk := D.nx } σ2 H2) (hd : ∀ σ H, Pv xs.length σ H → D.nx σ H) :
    ∃ W : Nat → Nat → St → Hp → Prop, (∃ m, W 0 m σ H) ∧ ∀ i m σ H, W i m σ H →
      ((Ite K a).stop i H ∧ D.nx σ H) ∨ ((Ite K a).go i H ∧ ∃ N : St → Hp → Prop, (∀ σ' H', N σ' H' → ∃ m', m' < m ∧ W (i + 1) m' σ' H') ∧ ∀ x H', (Ite K a).yld i H x H' → g x σ H' fun σ2 H2 => tb { D with nx := N, ct := N, bk := D.nx } σ2 H2) := by
  refine ⟨fun i m σ H => m = xs.length - i ∧ i ≤ xs.length ∧ Pv i σ H, ⟨xs.length, by simp, Nat.zero_le _, h0⟩, ?_⟩
  rintro i m σ H ⟨rfl, hi, p⟩
  have q := hl i σ H hi p
  by_cases hlt : i < xs.length
  · refine .inr ⟨⟨xs, xs[i], q, by simp [hlt]⟩, Pv (i + 1), fun σ' H' z => ⟨xs.length - (i + 1), by omega, rfl, hlt, z⟩, ?_⟩
    rintro y H' ⟨t, x, rfl, ht, rfl, hx⟩
    exact hs i x σ H t (hx xs q) p ht
  · have e : i = xs.length := by omega
    subst e
    exact .inl ⟨⟨xs, q, Nat.le_refl _⟩, hd σ H p⟩
/-! ### sum -/
end
end L2
namespace L2
open PySem PySem.Spec PyProof.Rows
/-! ### one of two readings of the same expression (a method of one class or of another one) -/
section
variable {X : Cx} {e : Expr} {t1 t2 : TE}
def tAlt (t1 t2 : TE) : TE := fun σ H Q => t1 σ H Q ∨ t2 σ H Q
theorem pe_alt (h1 : PE X e t1) (h2 : PE X e t2) : PE X e (tAlt t1 t2) := by
  intro pins s σ H Q I h
  rcases h with h | h
  · exact h1 pins s σ H Q I h
  · exact h2 pins s σ H Q I h
theorem i_altL {σ : St} {H : Hp} {Q : VK} (h : t1 σ H Q) : tAlt t1 t2 σ H Q := .inl h
theorem i_altR {σ : St} {H : Hp} {Q : VK} (h : t2 σ H Q) : tAlt t1 t2 σ H Q := .inr h
end
/-- what is told apart of a new object -/
theorem new_obj {H : Hp} {p : Addr} {o : HO} {A : Hp → Prop} (hp : H p = none) (h : ∀ H', Same H H' → H' p = some o → A H') : A (upd H p o) := h _ (same_upd hp) upd_same
theorem new_obj2 {α : Type} {H : Hp} {p : Addr} {o : HO} {A : Hp → α → Prop} {Q : α} (hp : H p = none) (h : ∀ H', Same H H' → H' p = some o → A H' Q) : A (upd H p o) Q := h _ (same_upd hp) upd_same
/-! ### comprehensions: over a tuple; and where each item comes of its own, and nothing that stood is changed -/
section
variable {K : PySem.W.Frag} {a D : Addr} {xs : List V} {te : TE} {fr : St} {R : Hp → Prop} {H1 : Hp}
theorem compF_tup (Pv : Nat → Hp → Prop) (h0 : Pv 0 (upd H1 D (.lst []))) (hl : ∀ i H, i ≤ xs.length → Pv i H → SqT K H a xs)
    (hs : ∀ i x H, xs[i]? = some x → i < xs.length → Pv i H → te (some x :: fr) H fun y H4 => ∃ ys, H4 D = some (.lst ys) ∧ ys.length < sizeLine ∧ ∃ m', m' < xs.length - i ∧ cW xs.length Pv (i + 1) m' (upd H4 D (.lst (ys ++ [y]))))
    (hd : ∀ H, Pv xs.length H → R H) : tCompBF (Itt K a) te fr D R H1 := by
  refine ⟨cW xs.length Pv, ⟨xs.length, by simp, Nat.zero_le _, h0⟩, ?_⟩
  rintro i m H ⟨rfl, hi, p⟩
  have q := hl i H hi p
  by_cases hlt : i < xs.length
  · refine .inr ⟨⟨xs, xs[i], q, by simp [hlt]⟩, fun x H' y => ?_⟩
    obtain ⟨e, y⟩ := y
    subst e
    exact hs i x _ (y xs q) hlt p
  · have e : i = xs.length := by omega
    subst e
    exact .inl ⟨⟨xs, q, Nat.le_refl _⟩, hd H p⟩
/-- the list as far as it is made -/
def Mp (H1 : Hp) (D : Addr) (f : Nat → V) (i : Nat) (H : Hp) : Prop := Same H1 H ∧ H D = some (.lst ((List.range i).map f))
theorem Mp.zero {f : Nat → V} (hD : H1 D = none) : Mp H1 D f 0 (upd H1 D (.lst [])) := ⟨same_upd hD, upd_same⟩
theorem Mp.step {f : Nat → V} {n i : Nat} {H4 : Hp} {y : V} (hD : H1 D = none) (hn : n < sizeLine) (hi : i < n) (S : Same H1 H4) (h4 : H4 D = some (.lst ((List.range i).map f))) (e : y = f i) :
    ∃ ys, H4 D = some (.lst ys) ∧ ys.length < sizeLine ∧ ∃ m', m' < n - i ∧ cW n (Mp H1 D f) (i + 1) m' (upd H4 D (.lst (ys ++ [y]))) := by
  refine comp_next (n := n) h4 (by rw [List.length_map, List.length_range]; omega) hi ⟨?_, ?_⟩
  · intro b o hb
    rw [upd_ne (ne_of_none hb hD)]
    exact S b o hb
  · rw [upd_same, List.range_succ, List.map_append, e]
    rfl
theorem range_map {f : Nat → V} {g : V → V} {xs : List V} (h : ∀ i x, xs[i]? = some x → f i = g x) : (List.range xs.length).map f = xs.map g := by
  refine List.ext_getElem? fun i => ?_
  rw [List.getElem?_map, List.getElem?_map]
  by_cases hi : i < xs.length
  · rw [List.getElem?_range hi, List.getElem?_eq_getElem hi]
    show some (f i) = some (g xs[i])
    rw [h i _ (List.getElem?_eq_getElem hi)]
  · rw [List.getElem?_eq_none (by rw [List.length_range]; omega), List.getElem?_eq_none (by omega)]
    rfl
def ofG (g : V → V) (xs : List V) (i : Nat) : V := ((xs[i]?).map g).getD .non
theorem ofG_at {g : V → V} {xs : List V} {i : Nat} {x : V} (h : xs[i]? = some x) : ofG g xs i = g x := by
  unfold ofG
  rw [h]
  rfl
def MpK (H1 : Hp) (D : Addr) (f : Nat → V) (n i : Nat) : VK := fun y H4 => ∃ ys, H4 D = some (.lst ys) ∧ ys.length < sizeLine ∧ ∃ m', m' < n - i ∧ cW n (Mp H1 D f) (i + 1) m' (upd H4 D (.lst (ys ++ [y])))
theorem Mp.done {g : V → V} {i : Nat} {x y : V} {H4 : Hp} (hD : H1 D = none) (hn : xs.length < sizeLine) (hx : xs[i]? = some x) (S : Same H1 H4) (h4 : H4 D = some (.lst ((List.range i).map (ofG g xs)))) (e : y = g x) : MpK H1 D (ofG g xs) xs.length i y H4 := by
  have hi : i < xs.length := by
    rcases Nat.lt_or_ge i xs.length with q | q
    · exact q
    · rw [List.getElem?_eq_none q] at hx; cases hx
  exact Mp.step hD hn hi S h4 (e.trans (ofG_at hx).symm)
theorem compF_listM (g : V → V) (hq : SqL K H1 a xs) (hD : H1 D = none)
    (hs : ∀ i x H, xs[i]? = some x → Same H1 H → H D = some (.lst ((List.range i).map (ofG g xs))) → te (some x :: fr) H (MpK H1 D (ofG g xs) xs.length i))
    (hd : ∀ H, Same H1 H → H D = some (.lst (xs.map g)) → R H) : tCompBF (Itl K a) te fr D R H1 :=
  compF_list (Mp H1 D (ofG g xs)) (Mp.zero hD) (fun _ _ _ p => p.1.seq hq) (fun i x H hx hi p => hs i x H hx p.1 p.2)
    fun H p => hd H p.1 (by rw [← range_map (f := ofG g xs) fun i x => ofG_at]; exact p.2)
theorem compF_tupM (g : V → V) (hq : SqT K H1 a xs) (hD : H1 D = none)
    (hs : ∀ i x H, xs[i]? = some x → Same H1 H → H D = some (.lst ((List.range i).map (ofG g xs))) → te (some x :: fr) H (MpK H1 D (ofG g xs) xs.length i))
    (hd : ∀ H, Same H1 H → H D = some (.lst (xs.map g)) → R H) : tCompBF (Itt K a) te fr D R H1 :=
  compF_tup (Mp H1 D (ofG g xs)) (Mp.zero hD) (fun _ _ _ p => p.1.tup hq) (fun i x H hx hi p => hs i x H hx p.1 p.2)
    fun H p => hd H p.1 (by rw [← range_map (f := ofG g xs) fun i x => ofG_at]; exact p.2)
theorem i_iRng2 {tr : TA} {σ : St} {H : Hp} {R : It → Hp → Prop} (h : tr σ H fun vs H1 => ∃ i j : Int, vs = [.int i, .int j] ∧ (-(2 ^ 62) ≤ i ∧ i < 2 ^ 62 ∧ -(2 ^ 62) ≤ j ∧ j < 2 ^ 62) ∧ R (Itr i (j - i).toNat) H1) : iRng2 tr σ H R := h
end
/-! ### C() of a class without an __init__ of its own -/
structure Mk0 (K : PySem.W.Frag) (C : Addr) : Prop where
  makes : PySem.W.makesIn K C = true
  init : PySem.W.findIn K (.ref C) "__init__" = some (some (.builtin "object.__init__"))
  kp : PySem.W.keepIn K (.ref C) = true
def tMake0 (C : Addr) : TE := fun _ H Q => ∀ x dx, H x = none → H dx = none → dx ≠ x → Q (.ref x) (upd (upd H dx (.own x)) x (.ins C dx []))
theorem run_make0 {X : Cx} {C : Addr} {pins : List (Addr × Obj)} {σ : St} {H : Hp} {s : Shared} {Q : VK} (M : Mk0 X.K C) (I : Inv X pins σ H s) (h : ∀ x dx, H x = none → H dx = none → dx ≠ x → Q (.ref x) (upd (upd H dx (.own x)) x (.ins C dx []))) :
    wpAny (model X.prog X.w) X.A (call (.ref C) []) (EP X pins σ Q) X.xe s := by
  have hq := h (s.heap.objs.size + 1) s.heap.objs.size (I.hok.fresh (Nat.le_succ _)) (I.hok.fresh (Nat.le_refl _)) (Nat.ne_of_lt (Nat.lt_succ_self _))
  have I2 := Inv.made (C := C) I
  refine wpAny_call (make_map0 I.kIn M.makes M.init (fun self => PySem.W.Looks.of_pure (PySem.W.oi_bind self)) ?_)
  have Y := PySem.W.makes_of (M := model X.prog X.w) I.kIn M.makes
  have t0 : ((s.heap.push PySem.W.emptyDict).push (PySem.W.instObj C s.heap.objs.size)).get? (s.heap.objs.size + 1) = some (PySem.W.instObj C s.heap.objs.size) := by
    have e : (s.heap.push PySem.W.emptyDict).objs.size = s.heap.objs.size + 1 := Heap.size_push _ _
    rw [← e]
    exact Heap.get?_push_size _ rfl
  have t1 : PySem.W.Looks (model X.prog X.w) ((s.heap.push PySem.W.emptyDict).push (PySem.W.instObj C s.heap.objs.size)) (typeOf (.ref (s.heap.objs.size + 1))) (.ref C) := (PySem.W.Looks.ld t0).andThen .now
  have t2 : PySem.W.Looks (model X.prog X.w) ((s.heap.push PySem.W.emptyDict).push (PySem.W.instObj C s.heap.objs.size)) (isInstance (.ref (s.heap.objs.size + 1)) (.type "object")) true := t1.andThen (Y.top.keeps fun b o e => Heap.get?_push_of_some _ (Heap.get?_push_of_some _ e))
  refine codeAny_call_builtin PySem.W.oi_plain PySem.W.entry_oi (@PySem.W.check_slot (model X.prog X.w) _ _ _ "object.__init__" "object" "__init__" (.ref (s.heap.objs.size + 1)) [] [] _ PySem.W.oi_kind PySem.W.oi_split t2 (PySem.W.oi_args (.ref (s.heap.objs.size + 1))) ?_)
  rw [PySem.W.oi_run]
  exact wpAny_pure (And.intro rfl ⟨V.ref (s.heap.objs.size + 1), _, I2, rfl, hq⟩)
theorem pe_makeO {X : Cx} {C : Addr} {x : Str} {p pos : Pos} (M : Mk0 X.K C) (hg : Gl X x) (hm : X.mg x = some (.ref C)) (hdb : (x == ("__debug__" : Str)) = false := by decide) : PE X (.Call (.Name x p) [] [] pos) (tMake0 C) := by
  intro pins s σ H Q I h
  refine wpAny_Call_Name_kw (ld_glob I hg hm ?_ hdb)
  exact PySem.W.callWith_K0 I.kIn M.kp (run_make0 M I h)
theorem i_make0 {C : Addr} {σ : St} {H : Hp} {Q : VK} (h : ∀ x dx, H x = none → H dx = none → dx ≠ x → Q (.ref x) (upd (upd H dx (.own x)) x (.ins C dx []))) : tMake0 C σ H Q := h
end L2
namespace L2
open PySem PySem.Spec PyProof.Rows
/-- len, by a name of its own (inside a comprehension) -/
def rLenS (K : PySem.W.Frag) : List V → Hp → VK → Prop := fun xs H Q => ∃ p ys, xs = [.ref p] ∧ (SqL K H p ys ∨ SqT K H p ys) ∧ Q (.int ys.length) H
theorem call_lenS {X : Cx} : CallR X (.builtin "len") (rLenS X.K) := call_len_seq
theorem i_lenS {K : PySem.W.Frag} {H : Hp} {Q : VK} {p : Addr} {ys : List V} (h : SqL K H p ys) (k : Q (.int ys.length) H) : rLenS K [.ref p] H Q := ⟨p, ys, rfl, .inl h, k⟩
end L2
/-! comprehensions with a target of several names -/
namespace L2
open PySem PySem.Spec PyProof.Rows
def tCompBT (J : It) (g : TG) (te : TE) (n : Nat) (fr : St) (D : Addr) (R : Hp → Prop) (H1 : Hp) : Prop := ∃ W : Nat → Nat → Hp → Prop, (∃ m, W 0 m (upd H1 D (.lst []))) ∧
  ∀ i m H2, W i m H2 → (J.stop i H2 ∧ R H2) ∨ (J.go i H2 ∧ ∀ x H3 pre, J.yld i H2 x H3 → List.length pre = n → g x (pre ++ fr) H3 fun σ' H' => (∃ pre', List.length pre' = n ∧ σ' = pre' ++ fr) ∧ te σ' H' fun y H4 => ∃ ys, H4 D = some (.lst ys) ∧ ys.length < sizeLine ∧ ∃ m', m' < m ∧ W (i + 1) m' (upd H4 D (.lst (ys ++ [y]))))
def tCompT (wi : TI) (g : TG) (te : TE) (n : Nat) (js : List Nat) : TE := fun σ H Q => wi σ H fun J H1 => ∀ D, H1 D = none → tCompBT J g te n (takeS js σ) D (fun H2 => Q (.ref D) H2) H1
section
variable {X : Cx} {iter elt tg : Expr} {xs : List Str} {g : TG} {pos : Pos} {scope : Scope} {te : TE} {wi : TI} {pins : List (Addr × Obj)} {σ : St} {ys : List Str} {js : List Nat}
theorem i_compT {H : Hp} {Q : VK} {n : Nat} (h : wi σ H fun J H1 => ∀ D, H1 D = none → tCompBT J g te n (takeS js σ) D (fun H2 => Q (.ref D) H2) H1) : tCompT wi g te n js σ H Q := h
end
end L2
/-! range with a step; enumerate of a tuple -/
namespace L2
open PySem PySem.Spec PyProof.Rows
/-! ### range(lo, hi, st) -/
def Itrs (lo st : Int) (n : Nat) : It := ⟨fun i _ => i < n, fun i H x H' => H' = H ∧ x = .int (lo + i * st), fun i _ => n ≤ i⟩
/-- how many -/
def rgN (lo hi st : Int) : Nat := if lo < hi then ((hi - lo - 1) / st + 1).toNat else 0
section
variable {X : Cx} {tg : Expr}
def iRng3 (ta : TA) : TI := fun σ H R => ta σ H fun vs H1 => ∃ i j st : Int, vs = [.int i, .int j, .int st] ∧ (0 ≤ i ∧ i < 100000000 ∧ 0 ≤ j ∧ j < 100000000 ∧ 0 < st ∧ st < 1000000) ∧ R (Itrs i st (rgN i j st)) H1
theorem i_iRng3 {tr : TA} {σ : St} {H : Hp} {R : It → Hp → Prop} (h : tr σ H fun vs H1 => ∃ i j st : Int, vs = [.int i, .int j, .int st] ∧ (0 ≤ i ∧ i < 100000000 ∧ 0 ≤ j ∧ j < 100000000 ∧ 0 < st ∧ st < 1000000) ∧ R (Itrs i st (rgN i j st)) H1) : iRng3 tr σ H R := h
end
/-! ### enumerate of a tuple -/
section
variable {prog : Program} {w : World} {A : Around} {E : Value → Shared → Prop} {s : Shared}
end
section
open AutoSeq1 (wpAny_loadPart')
set_option maxRecDepth 100000
end
section
variable {prog : Program} {w : World} {A : Around} {E : Value → Shared → Prop} {s : Shared}
end
/-- the pairs of the tuple at a -/
def IteT (K : PySem.W.Frag) (a : Addr) : It :=
  ⟨fun i H => ∃ xs x, SqT K H a xs ∧ xs[i]? = some x, fun i H y H' => ∃ t x, y = .ref t ∧ H t = none ∧ H' = upd H t (.tup [.int i, x]) ∧ ∀ xs, SqT K H a xs → xs[i]? = some x, fun i H => ∃ xs, SqT K H a xs ∧ xs.length ≤ i⟩
section
variable {X : Cx}
def iEnumT (K : PySem.W.Frag) (ta : TA) : TI := fun σ H R => ta σ H fun vs H1 => ∃ a, vs = [.ref a] ∧ (∃ xs, SqT K H1 a xs) ∧ R (IteT K a) H1
theorem i_iEnumT {K : PySem.W.Frag} {ta : TA} {σ : St} {H : Hp} {R : It → Hp → Prop} (h : ta σ H fun vs H1 => ∃ a, vs = [.ref a] ∧ (∃ xs, SqT K H1 a xs) ∧ R (IteT K a) H1) : iEnumT K ta σ H R := h
end
end L2
namespace L2
open PySem PySem.Spec PyProof.Rows
/-! ### for over what a def tells from which errors may come: no error leaves the loop itself -/
section
variable {X : Cx} {tg : Expr}
end
end L2
namespace L2
/-! ### what the rules of dicts ask -/
section
variable {σ : St} {H : Hp} {Q : VK} {td ty tx tv : TE}
theorem i_dget (h : td σ H fun x H1 => ty σ H1 fun y H2 => ∃ a v, x = .ref a ∧ DGet H2 a y (some v) ∧ Q v H2) : tDGet td ty σ H Q := h
theorem i_dget1 (h : td σ H fun x H1 => ∃ a, x = .ref a ∧ IsD H1 a ∧ ty σ H1 fun y H2 => ∃ o, DGet H2 a y o ∧ Q (o.getD .non) H2) : tDGet1 td ty σ H Q := h
theorem i_dget2 (h : td σ H fun x H1 => ∃ a, x = .ref a ∧ IsD H1 a ∧ ty σ H1 fun y H2 => tx σ H2 fun z H3 => ∃ o, DGet H3 a y o ∧ Q (o.getD z) H3) : tDGet2 td ty tx σ H Q := h
theorem i_din (h : ty σ H fun y H1 => td σ H1 fun x H2 => ∃ a o, x = .ref a ∧ DGet H2 a y o ∧ Q (.bl o.isSome) H2) : tDIn ty td σ H Q := h
theorem i_dnotin (h : ty σ H fun y H1 => td σ H1 fun x H2 => ∃ a o, x = .ref a ∧ DGet H2 a y o ∧ Q (.bl (!o.isSome)) H2) : tDNotIn ty td σ H Q := h
theorem i_dput {nx bk ct : St → Hp → Prop} {rt : VK} (h : tv σ H fun v H1 => td σ H1 fun x H2 => ty σ H2 fun y H3 => ∃ a H4, x = .ref a ∧ DPut H3 a y v H4 ∧ nx σ H4) : sDPut td ty tv ⟨nx, rt, bk, ct⟩ σ H := h
theorem i_dnewT (h : ∀ p, H p = none → Q (.ref p) (upd H p (.dT []))) : tDNewT σ H Q := h
end
end L2
/-! zip of two lists, in a comprehension and in a loop -/
namespace L2
open PySem PySem.Spec PyProof.Rows
/-- the pairs of the lists at a and b -/
def Itz (K : PySem.W.Frag) (a b : Addr) : It :=
  ⟨fun i H => ∃ xs ys x y, SqL K H a xs ∧ SqL K H b ys ∧ xs[i]? = some x ∧ ys[i]? = some y,
   fun i H v H' => ∃ t x y, v = .ref t ∧ H t = none ∧ H' = upd H t (.tup [x, y]) ∧ (∀ xs, SqL K H a xs → xs[i]? = some x) ∧ (∀ ys, SqL K H b ys → ys[i]? = some y),
   fun i H => ∃ xs ys, SqL K H a xs ∧ SqL K H b ys ∧ (xs.length ≤ i ∨ ys.length ≤ i)⟩
structure Zap (z TI TO i1 i2 : Addr) : Prop where
  a1 : TI ≠ z
  a2 : TO ≠ z
  a3 : i1 ≠ z
  a4 : i2 ≠ z
  a5 : TI ≠ TO
  a6 : TI ≠ i1
  a7 : TI ≠ i2
  a8 : TO ≠ i1
  a9 : TO ≠ i2
  b1 : i1 ≠ i2
def Zst (z TI TO i1 i2 l1 l2 : Addr) (i : Nat) (h : Heap) : Prop := IsZip h z TI TO .none ∧ IsPair h TI (.ref i1) (.ref i2) ∧ (∃ a b, IsPair h TO a b) ∧ h.IsListIter i1 l1 i ∧ h.IsListIter i2 l2 i
theorem ne_cls {h : Heap} {a b : Addr} {o o' : Obj} (e : h.get? a = some o) (e' : h.get? b = some o') (n : o.cls ≠ o'.cls) : a ≠ b := by
  rintro rfl
  rw [e] at e'
  cases e'
  exact n rfl
theorem nT {a b : String} (h : Value.type a ≠ Value.type b) : Value.type a ≠ Value.type b := h
theorem Zap.apart {X : Cx} {pins : List (Addr × Obj)} {σ : St} {H : Hp} {s : Shared} {z TI TO i1 i2 l1 l2 : Addr} {i : Nat} {xs ys : List Value} (d : Zap z TI TO i1 i2) (st : Zst z TI TO i1 i2 l1 l2 i s.heap) (p : PlainL s.heap l1 xs.toArray) (q : PlainL s.heap l2 ys.toArray) (_ : Inv X pins σ H s) : ZipApart z TI TO i1 i2 l1 l2 := by
  obtain ⟨hz, hTI, ⟨a, b, hTO⟩, ⟨o1, e1, c1, _⟩, ⟨o2, e2, c2, _⟩⟩ := st
  obtain ⟨ol, el, cl, _⟩ := p.isList
  obtain ⟨om, em, cm, _⟩ := q.isList
  exact ⟨d.a1, d.a2, d.a3, d.a4, d.a5, d.a6, d.a7, d.a8, d.a9, d.b1,
    ne_cls el hz (by rw [cl]; exact nT (by decide)), ne_cls el hTO (by rw [cl]; exact nT (by decide)), ne_cls el e1 (by rw [cl, c1]; decide), ne_cls el e2 (by rw [cl, c2]; decide),
    ne_cls em hz (by rw [cm]; exact nT (by decide)), ne_cls em hTO (by rw [cm]; exact nT (by decide)), ne_cls em e1 (by rw [cm, c1]; decide), ne_cls em e2 (by rw [cm, c2]; decide)⟩
section
variable {X : Cx}
def iZip (K : PySem.W.Frag) (ta : TA) : TI := fun σ H R => ta σ H fun vs H1 => ∃ a b, vs = [.ref a, .ref b] ∧ (∃ xs ys, SqL K H1 a xs ∧ SqL K H1 b ys) ∧ R (Itz K a b) H1
theorem i_iZip {K : PySem.W.Frag} {ta : TA} {σ : St} {H : Hp} {R : It → Hp → Prop} (h : ta σ H fun vs H1 => ∃ a b, vs = [.ref a, .ref b] ∧ (∃ xs ys, SqL K H1 a xs ∧ SqL K H1 b ys) ∧ R (Itz K a b) H1) : iZip K ta σ H R := h
end
/-! ### name = a comprehension with a target of several names -/
section
variable {X : Cx} {iter elt tg : Expr} {xs : List Str} {g : TG} {pos : Pos} {scope : Scope} {te : TE} {wi : TI} {ys : List Str} {js : List Nat}
end
/-! ### << of two written numbers -/
section
variable {X : Cx}
def rShlC (k : Int) : R2 := fun x y H Q => ∃ i j, x = .int i ∧ y = .int j ∧ CPow i j ∧ i * 2 ^ j.toNat = k ∧ Q (.int k) H
theorem i_shlC {i j k : Int} {H : Hp} {Q : VK} (hc : CPow i j) (e : i * 2 ^ j.toNat = k) (h : Q (.int k) H) : rShlC k (.int i) (.int j) H Q := ⟨i, j, rfl, rfl, hc, e, h⟩
end
theorem i_gSub {to ti : TE} {t : TSet} {v : V} {σ : St} {H : Hp} {Q : St → Hp → Prop} (h : to σ H fun o H1 => ti σ H1 fun i H2 => t o i v H2 fun H3 => Q σ H3) : gSub to ti t v σ H Q := h
/-! ### bit_length of an int -/
section
variable {X : Cx}
def rBits : V → List V → Hp → VK → Prop := fun x vs H Q => ∃ i : Int, x = .int i ∧ vs = [] ∧ Q (.int (Builtin.Int.intBits i : Nat)) H
theorem i_bits {K : PySem.W.Frag} {i : Int} {H : Hp} {Q : VK} (h : Q (.int (Builtin.Int.intBits i : Nat)) H) : tyV K "int" (.int i) H ∧ rBits (.int i) [] H Q := ⟨rfl, i, rfl, rfl, h⟩
end
end L2
/-! zip of two tuples, in a comprehension -/
namespace L2
open PySem PySem.Spec PyProof.Rows
section
variable {prog : Program} {w : World} {A : Around} {E : Value → Shared → Prop} {s : Shared}
end
section
variable {prog : Program} {w : World} {A : Around} {E : Value → Shared → Prop} {s : Shared}
end
/-- the pairs of the tuples at a and b -/
def ItzT (K : PySem.W.Frag) (a b : Addr) : It :=
  ⟨fun i H => ∃ xs ys x y, SqT K H a xs ∧ SqT K H b ys ∧ xs[i]? = some x ∧ ys[i]? = some y,
   fun i H v H' => ∃ t x y, v = .ref t ∧ H t = none ∧ H' = upd H t (.tup [x, y]) ∧ (∀ xs, SqT K H a xs → xs[i]? = some x) ∧ (∀ ys, SqT K H b ys → ys[i]? = some y),
   fun i H => ∃ xs ys, SqT K H a xs ∧ SqT K H b ys ∧ (xs.length ≤ i ∨ ys.length ≤ i)⟩
section
variable {X : Cx}
def iZipT (K : PySem.W.Frag) (ta : TA) : TI := fun σ H R => ta σ H fun vs H1 => ∃ a b, vs = [.ref a, .ref b] ∧ (∃ xs ys, SqT K H1 a xs ∧ SqT K H1 b ys) ∧ R (ItzT K a b) H1
theorem i_iZipT {K : PySem.W.Frag} {ta : TA} {σ : St} {H : Hp} {R : It → Hp → Prop} (h : ta σ H fun vs H1 => ∃ a b, vs = [.ref a, .ref b] ∧ (∃ xs ys, SqT K H1 a xs ∧ SqT K H1 b ys) ∧ R (ItzT K a b) H1) : iZipT K ta σ H R := h
end
end L2
namespace L2
open PySem PySem.Spec PyProof.Rows HT
/-! ### t[lo:hi] that is the whole of t: t itself -/
section
variable {prog : Program} {w : World} {A : Around} {E : Value → Shared → Prop} {s : Shared}
end
section
variable {X : Cx}
end
end L2
/-! != of an empty dict with itself -/
namespace L2
open PySem PySem.Spec PyProof.Rows PySem.SeqAt
open AutoSeq1 (wpAny_loadPart')
section
variable {X : Cx}
end
end L2
namespace Law
open PySem L2
local macro_rules | `(tactic| walk_at "side") => `(tactic| first | exact ⟨by decide, by decide⟩ | (show (0 : Int) < _; first | decide | omega) | exact Or.inl ⟨by omega, by omega⟩ | exact Or.inr ⟨by omega, by omega⟩ | exact ⟨by omega, by omega⟩ | exact ⟨by decide, by decide, by decide⟩)
local macro_rules | `(tactic| walk_at "len") => `(tactic| first | decide | (simp only [List.length_cons, List.length_nil]; decide))
local macro_rules | `(tactic| walk_at "rd1") => `(tactic| with_reducible first
  | refine i_seq ?_
  | (refine' i_var ?rdv ?_; (case rdv => with_unfolding_all rfl))
  | refine i_c ?_
  | refine i_op ?_
  | refine i_I0 ?_
  | refine i_test ?_
  | refine i_tB ?_
  | refine i_bl ?_
  | refine i_if ?_
  | refine i_asg ?_
  | refine i_ret ?_
  | refine i_next ?_
  | refine i_drop ?_
  | refine i_call ?_
  | refine i_callE ?_
  | refine i_methE ?_
  | refine i_makeE ?_
  | refine i_raise ?_
  | refine i_try ?_
  | refine i_cons ?_
  | refine i_nil ?_
  | refine i_cb ?_
  | refine i_eqI ?_
  | refine i_neI ?_
  | refine i_chain ?_
  | refine i_andV ?_
  | refine i_orV ?_
  | refine i_notV ?_
  | refine i_and ?_
  | refine i_or ?_
  | refine i_not ?_
  | refine i_ifE ?_
  | refine i_retN ?_
  | refine i_tup ?_
  | refine i_lst ?_
  | refine i_meth ?_
  | refine i_make ?_
  | refine i_make0 ?_
  | refine i_bm ?_
  | refine i_bm0 ?_
  | refine i_fld ?_
  | refine i_sfld ?_
  | refine i_sl ?_
  | refine i_noPart ?_
  | refine i_part ?_
  | refine i_int ?_
  | refine i_un ?_
  | refine i_U ?_
  | refine g0 ?_ | refine g1 ?_ | refine g2 ?_ | refine g3 ?_ | refine g4 ?_ | refine g5 ?_ | refine g6 ?_ | refine g7 ?_ | refine g8 ?_ | refine g9 ?_ | refine g10 ?_ | refine g11 ?_ | refine g12 ?_ | refine g13 ?_ | refine g14 ?_ | refine g15 ?_ | refine g16 ?_ | refine g17 ?_ | refine g18 ?_ | refine g19 ?_ | refine g20 ?_ | refine g21 ?_ | refine g22 ?_ | refine g23 ?_
  | refine i_gCons ?_
  | refine i_gNil ?_
  | refine iteT ?_
  | refine iteF ?_
  | refine iteNT ?_
  | refine iteNF ?_
  | refine i_for ?_
  | refine i_iList ?_
  | refine i_iTup ?_
  | refine i_iEnum ?_
  | refine i_compF ?_
  | refine i_iRng1 ?_
  | refine i_iRng2 ?_
  | refine i_iRng3 ?_
  | refine i_iEnumT ?_
  | refine i_iZip ?_
  | refine i_iZipT ?_
  | refine i_gSub ?_
  | refine i_bits ?_
  | refine i_compT ?_
  | refine i_dget ?_
  | refine i_dget1 ?_
  | refine i_dget2 ?_
  | refine i_din ?_
  | refine i_dnotin ?_
  | refine i_dput ?_
  | refine i_dnewT ?_
  | refine i_comp ?_
  | refine i_after ?_
  | (refine' i_shlC ?rdp ?rdq ?_; (case rdp => with_unfolding_all exact ⟨by decide, by decide, by decide⟩); (case rdq => with_unfolding_all decide))
  | (refine' i_powC ?rdp ?rdq ?_; (case rdp => with_unfolding_all exact ⟨by decide, by decide, by decide⟩); (case rdq => with_unfolding_all decide))
  | refine i_nonA ?_
  | (refine i_I ?rdc ?_; (case rdc => with_unfolding_all walk_at "side")))
local macro_rules | `(tactic| walk_at "rd") => `(tactic| repeat walk_at "rd1")
def top (i : Nat) : Stmt := PySem.Challenge.pw_foretell_k17_a_book.main.body.getD i (.Pass ⟨0, 0, 0, 0⟩)
abbrev s_is_whole : Stmt := top 9
abbrev s_is_bit : Stmt := top 10
abbrev s_check_bit : Stmt := top 11
abbrev s_Slot_chance : Stmt := inClass (top 14) 0
abbrev s_Even___init__ : Stmt := inClass (top 15) 0
abbrev s_Even_chance : Stmt := inClass (top 15) 1
abbrev s_Even_seen : Stmt := inClass (top 15) 2
abbrev s_Quick___init__ : Stmt := inClass (top 16) 0
abbrev s_Quick_chance : Stmt := inClass (top 16) 1
abbrev s_Quick_seen : Stmt := inClass (top 16) 2
abbrev s_Run___init__ : Stmt := inClass (top 17) 0
abbrev s_Run_chance : Stmt := inClass (top 17) 1
abbrev s_Run_seen : Stmt := inClass (top 17) 2
abbrev s_slot_of : Stmt := top 18
abbrev s_sign_back : Stmt := top 21
abbrev s_context_of : Stmt := top 22
abbrev s_Book___init__ : Stmt := inClass (top 23) 0
abbrev s_Book_chance : Stmt := inClass (top 23) 1
abbrev s_Book_slot_at : Stmt := inClass (top 23) 2
abbrev s_Book_seen : Stmt := inClass (top 23) 3
abbrev s__law_cell_at : Stmt := top 25
abbrev s__law_whole : Stmt := top 26
abbrev s__law_places : Stmt := top 27
abbrev s__law_look : Stmt := top 28
abbrev s__law_seen : Stmt := top 29
abbrev s__law_due : Stmt := top 30
abbrev s__law_decisions : Stmt := top 31
abbrev s__law_context : Stmt := top 32
abbrev s__law_right : Stmt := top 33
abbrev s__law_refused : Stmt := top 34
abbrev s__law_walked : Stmt := top 35
abbrev s__law_bits : Stmt := top 36
abbrev s__law_long : Stmt := top 37
abbrev s_law : Stmt := top 38
structure Ads where
  f_is_whole : Addr
  d_is_whole : FuncData
  f_is_bit : Addr
  d_is_bit : FuncData
  f_check_bit : Addr
  d_check_bit : FuncData
  f_Slot_chance : Addr
  d_Slot_chance : FuncData
  f_Even___init__ : Addr
  d_Even___init__ : FuncData
  f_Even_chance : Addr
  d_Even_chance : FuncData
  f_Even_seen : Addr
  d_Even_seen : FuncData
  f_Quick___init__ : Addr
  d_Quick___init__ : FuncData
  f_Quick_chance : Addr
  d_Quick_chance : FuncData
  f_Quick_seen : Addr
  d_Quick_seen : FuncData
  f_Run___init__ : Addr
  d_Run___init__ : FuncData
  f_Run_chance : Addr
  d_Run_chance : FuncData
  f_Run_seen : Addr
  d_Run_seen : FuncData
  f_slot_of : Addr
  d_slot_of : FuncData
  f_sign_back : Addr
  d_sign_back : FuncData
  f_context_of : Addr
  d_context_of : FuncData
  f_Book___init__ : Addr
  d_Book___init__ : FuncData
  f_Book_chance : Addr
  d_Book_chance : FuncData
  f_Book_slot_at : Addr
  d_Book_slot_at : FuncData
  f_Book_seen : Addr
  d_Book_seen : FuncData
  f__law_cell_at : Addr
  d__law_cell_at : FuncData
  f__law_whole : Addr
  d__law_whole : FuncData
  f__law_places : Addr
  d__law_places : FuncData
  f__law_look : Addr
  d__law_look : FuncData
  f__law_seen : Addr
  d__law_seen : FuncData
  f__law_due : Addr
  d__law_due : FuncData
  f__law_decisions : Addr
  d__law_decisions : FuncData
  f__law_context : Addr
  d__law_context : FuncData
  f__law_right : Addr
  d__law_right : FuncData
  f__law_refused : Addr
  d__law_refused : FuncData
  f__law_walked : Addr
  d__law_walked : FuncData
  f__law_bits : Addr
  d__law_bits : FuncData
  f__law_long : Addr
  d__law_long : FuncData
  f_law : Addr
  d_law : FuncData
  C_Even : Addr
  C_Quick : Addr
  C_Run : Addr
  C_Slot : Addr
  C_Book : Addr
  C_NoBit : Addr
  C_NoLooks : Addr
  C_ForetellError : Addr
  C_NoText : Addr
  t_ONE : Tok
  t_MOST_COUNTED : Tok
  t_LEAST : Tok
  t_NO_SIGN : Tok
structure Txt (K : PySem.W.Frag) (mg : Str → Option Value) (a : Ads) : Prop where
  F_is_whole : Fun K "is_whole" "is_whole" s_is_whole a.f_is_whole a.d_is_whole
  B_is_whole : Binds K a.d_is_whole ["thing"] []
  m_is_whole : mg "is_whole" = some (.ref a.f_is_whole)
  F_is_bit : Fun K "is_bit" "is_bit" s_is_bit a.f_is_bit a.d_is_bit
  B_is_bit : Binds K a.d_is_bit ["thing"] []
  m_is_bit : mg "is_bit" = some (.ref a.f_is_bit)
  F_check_bit : Fun K "check_bit" "check_bit" s_check_bit a.f_check_bit a.d_check_bit
  B_check_bit : Binds K a.d_check_bit ["thing"] []
  m_check_bit : mg "check_bit" = some (.ref a.f_check_bit)
  F_Slot_chance : Fun K "chance" "Slot.chance" s_Slot_chance a.f_Slot_chance a.d_Slot_chance
  B_Slot_chance : Binds K a.d_Slot_chance ["self"] []
  M_Slot_chance : Meth K a.C_Slot "chance" a.f_Slot_chance
  F_Even___init__ : Fun K "__init__" "Even.__init__" s_Even___init__ a.f_Even___init__ a.d_Even___init__
  B_Even___init__ : Binds K a.d_Even___init__ ["self"] []
  F_Even_chance : Fun K "chance" "Even.chance" s_Even_chance a.f_Even_chance a.d_Even_chance
  B_Even_chance : Binds K a.d_Even_chance ["self"] []
  M_Even_chance : Meth K a.C_Even "chance" a.f_Even_chance
  F_Even_seen : Fun K "seen" "Even.seen" s_Even_seen a.f_Even_seen a.d_Even_seen
  B_Even_seen : Binds K a.d_Even_seen ["self", "bit"] []
  M_Even_seen : Meth K a.C_Even "seen" a.f_Even_seen
  F_Quick___init__ : Fun K "__init__" "Quick.__init__" s_Quick___init__ a.f_Quick___init__ a.d_Quick___init__
  B_Quick___init__ : Binds K a.d_Quick___init__ ["self"] []
  F_Quick_chance : Fun K "chance" "Quick.chance" s_Quick_chance a.f_Quick_chance a.d_Quick_chance
  B_Quick_chance : Binds K a.d_Quick_chance ["self"] []
  M_Quick_chance : Meth K a.C_Quick "chance" a.f_Quick_chance
  F_Quick_seen : Fun K "seen" "Quick.seen" s_Quick_seen a.f_Quick_seen a.d_Quick_seen
  B_Quick_seen : Binds K a.d_Quick_seen ["self", "bit"] []
  M_Quick_seen : Meth K a.C_Quick "seen" a.f_Quick_seen
  F_Run___init__ : Fun K "__init__" "Run.__init__" s_Run___init__ a.f_Run___init__ a.d_Run___init__
  B_Run___init__ : Binds K a.d_Run___init__ ["self"] []
  F_Run_chance : Fun K "chance" "Run.chance" s_Run_chance a.f_Run_chance a.d_Run_chance
  B_Run_chance : Binds K a.d_Run_chance ["self"] []
  M_Run_chance : Meth K a.C_Run "chance" a.f_Run_chance
  F_Run_seen : Fun K "seen" "Run.seen" s_Run_seen a.f_Run_seen a.d_Run_seen
  B_Run_seen : Binds K a.d_Run_seen ["self", "bit"] []
  M_Run_seen : Meth K a.C_Run "seen" a.f_Run_seen
  F_slot_of : Fun K "slot_of" "slot_of" s_slot_of a.f_slot_of a.d_slot_of
  B_slot_of : Binds K a.d_slot_of ["kind"] []
  m_slot_of : mg "slot_of" = some (.ref a.f_slot_of)
  F_sign_back : Fun K "sign_back" "sign_back" s_sign_back a.f_sign_back a.d_sign_back
  B_sign_back : Binds K a.d_sign_back ["signs", "place"] []
  m_sign_back : mg "sign_back" = some (.ref a.f_sign_back)
  F_context_of : Fun K "context_of" "context_of" s_context_of a.f_context_of a.d_context_of
  B_context_of : Binds K a.d_context_of ["look", "signs", "node"] []
  m_context_of : mg "context_of" = some (.ref a.f_context_of)
  F_Book___init__ : Fun K "__init__" "Book.__init__" s_Book___init__ a.f_Book___init__ a.d_Book___init__
  B_Book___init__ : Binds K a.d_Book___init__ ["self", "look"] []
  F_Book_chance : Fun K "chance" "Book.chance" s_Book_chance a.f_Book_chance a.d_Book_chance
  B_Book_chance : Binds K a.d_Book_chance ["self", "signs", "node"] []
  M_Book_chance : Meth K a.C_Book "chance" a.f_Book_chance
  F_Book_slot_at : Fun K "slot_at" "Book.slot_at" s_Book_slot_at a.f_Book_slot_at a.d_Book_slot_at
  B_Book_slot_at : Binds K a.d_Book_slot_at ["self", "signs", "node"] []
  M_Book_slot_at : Meth K a.C_Book "slot_at" a.f_Book_slot_at
  F_Book_seen : Fun K "seen" "Book.seen" s_Book_seen a.f_Book_seen a.d_Book_seen
  B_Book_seen : Binds K a.d_Book_seen ["self", "signs", "node", "bit"] []
  M_Book_seen : Meth K a.C_Book "seen" a.f_Book_seen
  F__law_cell_at : Fun K "_law_cell_at" "_law_cell_at" s__law_cell_at a.f__law_cell_at a.d__law_cell_at
  B__law_cell_at : Binds K a.d__law_cell_at ["_law_script", "_law_k"] []
  m__law_cell_at : mg "_law_cell_at" = some (.ref a.f__law_cell_at)
  F__law_whole : Fun K "_law_whole" "_law_whole" s__law_whole a.f__law_whole a.d__law_whole
  B__law_whole : Binds K a.d__law_whole ["_law_found"] []
  m__law_whole : mg "_law_whole" = some (.ref a.f__law_whole)
  F__law_places : Fun K "_law_places" "_law_places" s__law_places a.f__law_places a.d__law_places
  B__law_places : Binds K a.d__law_places ["_law_cell"] []
  m__law_places : mg "_law_places" = some (.ref a.f__law_places)
  F__law_look : Fun K "_law_look" "_law_look" s__law_look a.f__law_look a.d__law_look
  B__law_look : Binds K a.d__law_look ["_law_cell"] []
  m__law_look : mg "_law_look" = some (.ref a.f__law_look)
  F__law_seen : Fun K "_law_seen" "_law_seen" s__law_seen a.f__law_seen a.d__law_seen
  B__law_seen : Binds K a.d__law_seen ["_law_state", "_law_bit"] []
  m__law_seen : mg "_law_seen" = some (.ref a.f__law_seen)
  F__law_due : Fun K "_law_due" "_law_due" s__law_due a.f__law_due a.d__law_due
  B__law_due : Binds K a.d__law_due ["_law_look_here", "_law_state"] []
  m__law_due : mg "_law_due" = some (.ref a.f__law_due)
  F__law_decisions : Fun K "_law_decisions" "_law_decisions" s__law_decisions a.f__law_decisions a.d__law_decisions
  B__law_decisions : Binds K a.d__law_decisions ["_law_texts"] []
  m__law_decisions : mg "_law_decisions" = some (.ref a.f__law_decisions)
  F__law_context : Fun K "_law_context" "_law_context" s__law_context a.f__law_context a.d__law_context
  B__law_context : Binds K a.d__law_context ["_law_look_here", "_law_signs", "_law_node"] []
  m__law_context : mg "_law_context" = some (.ref a.f__law_context)
  F__law_right : Fun K "_law_right" "_law_right" s__law_right a.f__law_right a.d__law_right
  B__law_right : Binds K a.d__law_right ["_law_book", "_law_look_here", "_law_seen_here", "_law_row", "_law_node"] []
  m__law_right : mg "_law_right" = some (.ref a.f__law_right)
  F__law_refused : Fun K "_law_refused" "_law_refused" s__law_refused a.f__law_refused a.d__law_refused
  B__law_refused : Binds K a.d__law_refused ["_law_book", "_law_signs", "_law_node", "_law_thing"] []
  m__law_refused : mg "_law_refused" = some (.ref a.f__law_refused)
  F__law_walked : Fun K "_law_walked" "_law_walked" s__law_walked a.f__law_walked a.d__law_walked
  B__law_walked : Binds K a.d__law_walked ["_law_looks", "_law_decisions_here", "_law_at", "_law_odd"] []
  m__law_walked : mg "_law_walked" = some (.ref a.f__law_walked)
  F__law_bits : Fun K "_law_bits" "_law_bits" s__law_bits a.f__law_bits a.d__law_bits
  B__law_bits : Binds K a.d__law_bits ["_law_script", "_law_most"] []
  m__law_bits : mg "_law_bits" = some (.ref a.f__law_bits)
  F__law_long : Fun K "_law_long" "_law_long" s__law_long a.f__law_long a.d__law_long
  B__law_long : Binds K a.d__law_long ["_law_look_here", "_law_bits_here"] []
  m__law_long : mg "_law_long" = some (.ref a.f__law_long)
  F_law : Fun K "law" "law" s_law a.f_law a.d_law
  B_law : Binds K a.d_law ["_law_script"] []
  m_law : mg "law" = some (.ref a.f_law)
  cl_Even : Cls K a.C_Even
  m_Even : mg "Even" = some (.ref a.C_Even)
  k_Even : Mk K a.C_Even a.f_Even___init__
  n_Even_noughts : NoAttr K a.C_Even "noughts"
  n_Even_ones : NoAttr K a.C_Even "ones"
  cl_Quick : Cls K a.C_Quick
  m_Quick : mg "Quick" = some (.ref a.C_Quick)
  k_Quick : Mk K a.C_Quick a.f_Quick___init__
  n_Quick_held : NoAttr K a.C_Quick "held"
  cl_Run : Cls K a.C_Run
  m_Run : mg "Run" = some (.ref a.C_Run)
  k_Run : Mk K a.C_Run a.f_Run___init__
  n_Run_last : NoAttr K a.C_Run "last"
  n_Run_length : NoAttr K a.C_Run "length"
  cl_Slot : Cls K a.C_Slot
  m_Slot : mg "Slot" = some (.ref a.C_Slot)
  k_Slot : Mk0 K a.C_Slot
  cl_Book : Cls K a.C_Book
  m_Book : mg "Book" = some (.ref a.C_Book)
  k_Book : Mk K a.C_Book a.f_Book___init__
  n_Book_look : NoAttr K a.C_Book "look"
  n_Book_slots : NoAttr K a.C_Book "slots"
  m_NoBit : mg "NoBit" = some (.ref a.C_NoBit)
  m_NoLooks : mg "NoLooks" = some (.ref a.C_NoLooks)
  m_ForetellError : mg "ForetellError" = some (.ref a.C_ForetellError)
  m_NoText : mg "NoText" = some (.ref a.C_NoText)
  x_NoBit : XCls K a.C_NoBit
  r_NoBit : XMk K a.C_NoBit
  ki_NoBit_NoText : PySem.W.kitOne K (.ref a.C_NoBit) (.ref a.C_NoText) = some false
  ki_NoBit_ValueError : PySem.W.kitOne K (.ref a.C_NoBit) (.type "ValueError") = some true
  ki_NoBit_NoBit : PySem.W.kitOne K (.ref a.C_NoBit) (.ref a.C_NoBit) = some true
  em_NoBit_ForetellError : PySem.W.exmOne K (.ref a.C_NoBit) (.ref a.C_ForetellError) = some true
  z_isinstance : mg "isinstance" = none
  z_int : mg "int" = none
  z_bool : mg "bool" = none
  z_min : mg "min" = none
  z_max : mg "max" = none
  z_len : mg "len" = none
  z_tuple : mg "tuple" = none
  z_range : mg "range" = none
  z_list : mg "list" = none
  z_ValueError : mg "ValueError" = none
  z_enumerate : mg "enumerate" = none
  c_ONE : mg "ONE" = some (.int 16777216 a.t_ONE)
  c_MOST_COUNTED : mg "MOST_COUNTED" = some (.int 255 a.t_MOST_COUNTED)
  c_LEAST : mg "LEAST" = some (.int 32768 a.t_LEAST)
  c_NO_SIGN : mg "NO_SIGN" = some (.int 256 a.t_NO_SIGN)
section
variable {P : Program} {w : World} {K : PySem.W.Frag} {mg : Str → Option Value} {base : Heap} {a : Ads}
def F_Even (v0 v1 : V) : List (Str × V) := [("noughts", v0), ("ones", v1)]
section
variable {H : Hp} {p dx : Addr} {v0 v1 v : V} {P : V → Prop} {R : Prop} {nx : St → Hp → Prop} {σ : St}
theorem rd_Even_noughts (T : Txt K mg a) (hp : H p = some (.ins a.C_Even dx (F_Even v0 v1))) (h : P v0) : ∃ a' C dx fs v, V.ref p = .ref a' ∧ H a' = some (.ins C dx fs) ∧ Cls K C ∧ NoAttr K C "noughts" ∧ fs.lookup ("noughts" : Str) = some v ∧ P v := ⟨p, _, dx, _, _, rfl, hp, T.cl_Even, T.n_Even_noughts, lk_hd, h⟩
theorem st_Even_noughts (T : Txt K mg a) (hp : H p = some (.ins a.C_Even dx (F_Even v0 v1))) (h : After nx σ (upd H p (.ins a.C_Even dx (F_Even v v1)))) : ∃ a' C dx fs, V.ref p = .ref a' ∧ H a' = some (.ins C dx fs) ∧ Cls K C ∧ NoAttr K C "noughts" ∧ fs.length < 1000 ∧ After nx σ (upd H a' (.ins C dx (putF "noughts" v fs))) := ⟨p, _, dx, F_Even v0 v1, rfl, hp, T.cl_Even, T.n_Even_noughts, by show 2 < 1000; decide, by rw [show putF "noughts" v (F_Even v0 v1) = F_Even v v1 from pf_hd]; exact h⟩
theorem s0_Even_noughts (T : Txt K mg a) (hp : H p = some (.ins a.C_Even dx [])) (h : After nx σ (upd H p (.ins a.C_Even dx (([("noughts", v)] : List (Str × V)))))) : ∃ a' C dx fs, V.ref p = .ref a' ∧ H a' = some (.ins C dx fs) ∧ Cls K C ∧ NoAttr K C "noughts" ∧ fs.length < 1000 ∧ After nx σ (upd H a' (.ins C dx (putF "noughts" v fs))) := ⟨p, _, dx, [], rfl, hp, T.cl_Even, T.n_Even_noughts, by show 0 < 1000; decide, by rw [show putF "noughts" v [] = ([("noughts", v)] : List (Str × V)) from pf_nil]; exact h⟩
theorem rd_Even_ones (T : Txt K mg a) (hp : H p = some (.ins a.C_Even dx (F_Even v0 v1))) (h : P v1) : ∃ a' C dx fs v, V.ref p = .ref a' ∧ H a' = some (.ins C dx fs) ∧ Cls K C ∧ NoAttr K C "ones" ∧ fs.lookup ("ones" : Str) = some v ∧ P v := ⟨p, _, dx, _, _, rfl, hp, T.cl_Even, T.n_Even_ones, (lk_tl (by decide +kernel) lk_hd), h⟩
theorem st_Even_ones (T : Txt K mg a) (hp : H p = some (.ins a.C_Even dx (F_Even v0 v1))) (h : After nx σ (upd H p (.ins a.C_Even dx (F_Even v0 v)))) : ∃ a' C dx fs, V.ref p = .ref a' ∧ H a' = some (.ins C dx fs) ∧ Cls K C ∧ NoAttr K C "ones" ∧ fs.length < 1000 ∧ After nx σ (upd H a' (.ins C dx (putF "ones" v fs))) := ⟨p, _, dx, F_Even v0 v1, rfl, hp, T.cl_Even, T.n_Even_ones, by show 2 < 1000; decide, by rw [show putF "ones" v (F_Even v0 v1) = F_Even v0 v from (pf_tl (by decide +kernel) pf_hd)]; exact h⟩
theorem s0_Even_ones (T : Txt K mg a) (hp : H p = some (.ins a.C_Even dx [("noughts", v0)])) (h : After nx σ (upd H p (.ins a.C_Even dx (F_Even v0 v)))) : ∃ a' C dx fs, V.ref p = .ref a' ∧ H a' = some (.ins C dx fs) ∧ Cls K C ∧ NoAttr K C "ones" ∧ fs.length < 1000 ∧ After nx σ (upd H a' (.ins C dx (putF "ones" v fs))) := ⟨p, _, dx, [("noughts", v0)], rfl, hp, T.cl_Even, T.n_Even_ones, by show 1 < 1000; decide, by rw [show putF "ones" v [("noughts", v0)] = F_Even v0 v from (pf_tl (by decide +kernel) pf_nil)]; exact h⟩
theorem nk_Even___init__ : (F_Even v0 v1).lookup ("__init__" : Str) = none := (lk_tl (by decide +kernel) (lk_tl (by decide +kernel) lk_nil))
theorem mt_Even___init__ {C : Addr} (hp : H p = some (.ins C dx (F_Even v0 v1))) (h : R) : ∃ a dx fs, V.ref p = .ref a ∧ H a = some (.ins C dx fs) ∧ fs.lookup ("__init__" : Str) = none ∧ R := ⟨p, dx, _, rfl, hp, nk_Even___init__, h⟩
theorem nk_Even_chance : (F_Even v0 v1).lookup ("chance" : Str) = none := (lk_tl (by decide +kernel) (lk_tl (by decide +kernel) lk_nil))
theorem mt_Even_chance {C : Addr} (hp : H p = some (.ins C dx (F_Even v0 v1))) (h : R) : ∃ a dx fs, V.ref p = .ref a ∧ H a = some (.ins C dx fs) ∧ fs.lookup ("chance" : Str) = none ∧ R := ⟨p, dx, _, rfl, hp, nk_Even_chance, h⟩
theorem nk_Even_seen : (F_Even v0 v1).lookup ("seen" : Str) = none := (lk_tl (by decide +kernel) (lk_tl (by decide +kernel) lk_nil))
theorem mt_Even_seen {C : Addr} (hp : H p = some (.ins C dx (F_Even v0 v1))) (h : R) : ∃ a dx fs, V.ref p = .ref a ∧ H a = some (.ins C dx fs) ∧ fs.lookup ("seen" : Str) = none ∧ R := ⟨p, dx, _, rfl, hp, nk_Even_seen, h⟩
end
local macro_rules | `(tactic| walk_at "rd1") => `(tactic| first
  | (with_reducible refine' rd_Even_noughts (by assumption) ?rdh ?_; (case rdh => first | assumption | exact upd_same))
  | (with_reducible refine' st_Even_noughts (by assumption) ?rdh ?_; (case rdh => first | assumption | exact upd_same))
  | (with_reducible refine' s0_Even_noughts (by assumption) ?rdh ?_; (case rdh => first | assumption | exact upd_same))
  | (with_reducible refine' rd_Even_ones (by assumption) ?rdh ?_; (case rdh => first | assumption | exact upd_same))
  | (with_reducible refine' st_Even_ones (by assumption) ?rdh ?_; (case rdh => first | assumption | exact upd_same))
  | (with_reducible refine' s0_Even_ones (by assumption) ?rdh ?_; (case rdh => first | assumption | exact upd_same))
  | (with_reducible refine' mt_Even___init__ ?rdh ?_; (case rdh => first | assumption | exact upd_same))
  | (with_reducible refine' mt_Even_chance ?rdh ?_; (case rdh => first | assumption | exact upd_same))
  | (with_reducible refine' mt_Even_seen ?rdh ?_; (case rdh => first | assumption | exact upd_same))
)
def F_Quick (v0 : V) : List (Str × V) := [("held", v0)]
section
variable {H : Hp} {p dx : Addr} {v0 v : V} {P : V → Prop} {R : Prop} {nx : St → Hp → Prop} {σ : St}
theorem rd_Quick_held (T : Txt K mg a) (hp : H p = some (.ins a.C_Quick dx (F_Quick v0))) (h : P v0) : ∃ a' C dx fs v, V.ref p = .ref a' ∧ H a' = some (.ins C dx fs) ∧ Cls K C ∧ NoAttr K C "held" ∧ fs.lookup ("held" : Str) = some v ∧ P v := ⟨p, _, dx, _, _, rfl, hp, T.cl_Quick, T.n_Quick_held, lk_hd, h⟩
theorem st_Quick_held (T : Txt K mg a) (hp : H p = some (.ins a.C_Quick dx (F_Quick v0))) (h : After nx σ (upd H p (.ins a.C_Quick dx (F_Quick v)))) : ∃ a' C dx fs, V.ref p = .ref a' ∧ H a' = some (.ins C dx fs) ∧ Cls K C ∧ NoAttr K C "held" ∧ fs.length < 1000 ∧ After nx σ (upd H a' (.ins C dx (putF "held" v fs))) := ⟨p, _, dx, F_Quick v0, rfl, hp, T.cl_Quick, T.n_Quick_held, by show 1 < 1000; decide, by rw [show putF "held" v (F_Quick v0) = F_Quick v from pf_hd]; exact h⟩
theorem s0_Quick_held (T : Txt K mg a) (hp : H p = some (.ins a.C_Quick dx [])) (h : After nx σ (upd H p (.ins a.C_Quick dx (F_Quick v)))) : ∃ a' C dx fs, V.ref p = .ref a' ∧ H a' = some (.ins C dx fs) ∧ Cls K C ∧ NoAttr K C "held" ∧ fs.length < 1000 ∧ After nx σ (upd H a' (.ins C dx (putF "held" v fs))) := ⟨p, _, dx, [], rfl, hp, T.cl_Quick, T.n_Quick_held, by show 0 < 1000; decide, by rw [show putF "held" v [] = F_Quick v from pf_nil]; exact h⟩
theorem nk_Quick___init__ : (F_Quick v0).lookup ("__init__" : Str) = none := (lk_tl (by decide +kernel) lk_nil)
theorem mt_Quick___init__ {C : Addr} (hp : H p = some (.ins C dx (F_Quick v0))) (h : R) : ∃ a dx fs, V.ref p = .ref a ∧ H a = some (.ins C dx fs) ∧ fs.lookup ("__init__" : Str) = none ∧ R := ⟨p, dx, _, rfl, hp, nk_Quick___init__, h⟩
theorem nk_Quick_chance : (F_Quick v0).lookup ("chance" : Str) = none := (lk_tl (by decide +kernel) lk_nil)
theorem mt_Quick_chance {C : Addr} (hp : H p = some (.ins C dx (F_Quick v0))) (h : R) : ∃ a dx fs, V.ref p = .ref a ∧ H a = some (.ins C dx fs) ∧ fs.lookup ("chance" : Str) = none ∧ R := ⟨p, dx, _, rfl, hp, nk_Quick_chance, h⟩
theorem nk_Quick_seen : (F_Quick v0).lookup ("seen" : Str) = none := (lk_tl (by decide +kernel) lk_nil)
theorem mt_Quick_seen {C : Addr} (hp : H p = some (.ins C dx (F_Quick v0))) (h : R) : ∃ a dx fs, V.ref p = .ref a ∧ H a = some (.ins C dx fs) ∧ fs.lookup ("seen" : Str) = none ∧ R := ⟨p, dx, _, rfl, hp, nk_Quick_seen, h⟩
end
local macro_rules | `(tactic| walk_at "rd1") => `(tactic| first
  | (with_reducible refine' rd_Quick_held (by assumption) ?rdh ?_; (case rdh => first | assumption | exact upd_same))
  | (with_reducible refine' st_Quick_held (by assumption) ?rdh ?_; (case rdh => first | assumption | exact upd_same))
  | (with_reducible refine' s0_Quick_held (by assumption) ?rdh ?_; (case rdh => first | assumption | exact upd_same))
  | (with_reducible refine' mt_Quick___init__ ?rdh ?_; (case rdh => first | assumption | exact upd_same))
  | (with_reducible refine' mt_Quick_chance ?rdh ?_; (case rdh => first | assumption | exact upd_same))
  | (with_reducible refine' mt_Quick_seen ?rdh ?_; (case rdh => first | assumption | exact upd_same))
)
def F_Run (v0 v1 : V) : List (Str × V) := [("last", v0), ("length", v1)]
section
variable {H : Hp} {p dx : Addr} {v0 v1 v : V} {P : V → Prop} {R : Prop} {nx : St → Hp → Prop} {σ : St}
theorem rd_Run_last (T : Txt K mg a) (hp : H p = some (.ins a.C_Run dx (F_Run v0 v1))) (h : P v0) : ∃ a' C dx fs v, V.ref p = .ref a' ∧ H a' = some (.ins C dx fs) ∧ Cls K C ∧ NoAttr K C "last" ∧ fs.lookup ("last" : Str) = some v ∧ P v := ⟨p, _, dx, _, _, rfl, hp, T.cl_Run, T.n_Run_last, lk_hd, h⟩
theorem st_Run_last (T : Txt K mg a) (hp : H p = some (.ins a.C_Run dx (F_Run v0 v1))) (h : After nx σ (upd H p (.ins a.C_Run dx (F_Run v v1)))) : ∃ a' C dx fs, V.ref p = .ref a' ∧ H a' = some (.ins C dx fs) ∧ Cls K C ∧ NoAttr K C "last" ∧ fs.length < 1000 ∧ After nx σ (upd H a' (.ins C dx (putF "last" v fs))) := ⟨p, _, dx, F_Run v0 v1, rfl, hp, T.cl_Run, T.n_Run_last, by show 2 < 1000; decide, by rw [show putF "last" v (F_Run v0 v1) = F_Run v v1 from pf_hd]; exact h⟩
theorem s0_Run_last (T : Txt K mg a) (hp : H p = some (.ins a.C_Run dx [])) (h : After nx σ (upd H p (.ins a.C_Run dx (([("last", v)] : List (Str × V)))))) : ∃ a' C dx fs, V.ref p = .ref a' ∧ H a' = some (.ins C dx fs) ∧ Cls K C ∧ NoAttr K C "last" ∧ fs.length < 1000 ∧ After nx σ (upd H a' (.ins C dx (putF "last" v fs))) := ⟨p, _, dx, [], rfl, hp, T.cl_Run, T.n_Run_last, by show 0 < 1000; decide, by rw [show putF "last" v [] = ([("last", v)] : List (Str × V)) from pf_nil]; exact h⟩
theorem rd_Run_length (T : Txt K mg a) (hp : H p = some (.ins a.C_Run dx (F_Run v0 v1))) (h : P v1) : ∃ a' C dx fs v, V.ref p = .ref a' ∧ H a' = some (.ins C dx fs) ∧ Cls K C ∧ NoAttr K C "length" ∧ fs.lookup ("length" : Str) = some v ∧ P v := ⟨p, _, dx, _, _, rfl, hp, T.cl_Run, T.n_Run_length, (lk_tl (by decide +kernel) lk_hd), h⟩
theorem st_Run_length (T : Txt K mg a) (hp : H p = some (.ins a.C_Run dx (F_Run v0 v1))) (h : After nx σ (upd H p (.ins a.C_Run dx (F_Run v0 v)))) : ∃ a' C dx fs, V.ref p = .ref a' ∧ H a' = some (.ins C dx fs) ∧ Cls K C ∧ NoAttr K C "length" ∧ fs.length < 1000 ∧ After nx σ (upd H a' (.ins C dx (putF "length" v fs))) := ⟨p, _, dx, F_Run v0 v1, rfl, hp, T.cl_Run, T.n_Run_length, by show 2 < 1000; decide, by rw [show putF "length" v (F_Run v0 v1) = F_Run v0 v from (pf_tl (by decide +kernel) pf_hd)]; exact h⟩
theorem s0_Run_length (T : Txt K mg a) (hp : H p = some (.ins a.C_Run dx [("last", v0)])) (h : After nx σ (upd H p (.ins a.C_Run dx (F_Run v0 v)))) : ∃ a' C dx fs, V.ref p = .ref a' ∧ H a' = some (.ins C dx fs) ∧ Cls K C ∧ NoAttr K C "length" ∧ fs.length < 1000 ∧ After nx σ (upd H a' (.ins C dx (putF "length" v fs))) := ⟨p, _, dx, [("last", v0)], rfl, hp, T.cl_Run, T.n_Run_length, by show 1 < 1000; decide, by rw [show putF "length" v [("last", v0)] = F_Run v0 v from (pf_tl (by decide +kernel) pf_nil)]; exact h⟩
theorem nk_Run___init__ : (F_Run v0 v1).lookup ("__init__" : Str) = none := (lk_tl (by decide +kernel) (lk_tl (by decide +kernel) lk_nil))
theorem mt_Run___init__ {C : Addr} (hp : H p = some (.ins C dx (F_Run v0 v1))) (h : R) : ∃ a dx fs, V.ref p = .ref a ∧ H a = some (.ins C dx fs) ∧ fs.lookup ("__init__" : Str) = none ∧ R := ⟨p, dx, _, rfl, hp, nk_Run___init__, h⟩
theorem nk_Run_chance : (F_Run v0 v1).lookup ("chance" : Str) = none := (lk_tl (by decide +kernel) (lk_tl (by decide +kernel) lk_nil))
theorem mt_Run_chance {C : Addr} (hp : H p = some (.ins C dx (F_Run v0 v1))) (h : R) : ∃ a dx fs, V.ref p = .ref a ∧ H a = some (.ins C dx fs) ∧ fs.lookup ("chance" : Str) = none ∧ R := ⟨p, dx, _, rfl, hp, nk_Run_chance, h⟩
theorem nk_Run_seen : (F_Run v0 v1).lookup ("seen" : Str) = none := (lk_tl (by decide +kernel) (lk_tl (by decide +kernel) lk_nil))
theorem mt_Run_seen {C : Addr} (hp : H p = some (.ins C dx (F_Run v0 v1))) (h : R) : ∃ a dx fs, V.ref p = .ref a ∧ H a = some (.ins C dx fs) ∧ fs.lookup ("seen" : Str) = none ∧ R := ⟨p, dx, _, rfl, hp, nk_Run_seen, h⟩
end
local macro_rules | `(tactic| walk_at "rd1") => `(tactic| first
  | (with_reducible refine' rd_Run_last (by assumption) ?rdh ?_; (case rdh => first | assumption | exact upd_same))
  | (with_reducible refine' st_Run_last (by assumption) ?rdh ?_; (case rdh => first | assumption | exact upd_same))
  | (with_reducible refine' s0_Run_last (by assumption) ?rdh ?_; (case rdh => first | assumption | exact upd_same))
  | (with_reducible refine' rd_Run_length (by assumption) ?rdh ?_; (case rdh => first | assumption | exact upd_same))
  | (with_reducible refine' st_Run_length (by assumption) ?rdh ?_; (case rdh => first | assumption | exact upd_same))
  | (with_reducible refine' s0_Run_length (by assumption) ?rdh ?_; (case rdh => first | assumption | exact upd_same))
  | (with_reducible refine' mt_Run___init__ ?rdh ?_; (case rdh => first | assumption | exact upd_same))
  | (with_reducible refine' mt_Run_chance ?rdh ?_; (case rdh => first | assumption | exact upd_same))
  | (with_reducible refine' mt_Run_seen ?rdh ?_; (case rdh => first | assumption | exact upd_same))
)
abbrev F_Slot : List (Str × V) := []
section
variable {H : Hp} {p dx : Addr} { v : V} {P : V → Prop} {R : Prop} {nx : St → Hp → Prop} {σ : St}
theorem nk_Slot_chance : (F_Slot ).lookup ("chance" : Str) = none := lk_nil
theorem mt_Slot_chance {C : Addr} (hp : H p = some (.ins C dx (F_Slot ))) (h : R) : ∃ a dx fs, V.ref p = .ref a ∧ H a = some (.ins C dx fs) ∧ fs.lookup ("chance" : Str) = none ∧ R := ⟨p, dx, _, rfl, hp, nk_Slot_chance, h⟩
end
local macro_rules | `(tactic| walk_at "rd1") => `(tactic| first
  | (with_reducible refine' mt_Slot_chance ?rdh ?_; (case rdh => first | assumption | exact upd_same))
)
def F_Book (v0 v1 : V) : List (Str × V) := [("look", v0), ("slots", v1)]
section
variable {H : Hp} {p dx : Addr} {v0 v1 v : V} {P : V → Prop} {R : Prop} {nx : St → Hp → Prop} {σ : St}
theorem rd_Book_look (T : Txt K mg a) (hp : H p = some (.ins a.C_Book dx (F_Book v0 v1))) (h : P v0) : ∃ a' C dx fs v, V.ref p = .ref a' ∧ H a' = some (.ins C dx fs) ∧ Cls K C ∧ NoAttr K C "look" ∧ fs.lookup ("look" : Str) = some v ∧ P v := ⟨p, _, dx, _, _, rfl, hp, T.cl_Book, T.n_Book_look, lk_hd, h⟩
theorem st_Book_look (T : Txt K mg a) (hp : H p = some (.ins a.C_Book dx (F_Book v0 v1))) (h : After nx σ (upd H p (.ins a.C_Book dx (F_Book v v1)))) : ∃ a' C dx fs, V.ref p = .ref a' ∧ H a' = some (.ins C dx fs) ∧ Cls K C ∧ NoAttr K C "look" ∧ fs.length < 1000 ∧ After nx σ (upd H a' (.ins C dx (putF "look" v fs))) := ⟨p, _, dx, F_Book v0 v1, rfl, hp, T.cl_Book, T.n_Book_look, by show 2 < 1000; decide, by rw [show putF "look" v (F_Book v0 v1) = F_Book v v1 from pf_hd]; exact h⟩
theorem s0_Book_look (T : Txt K mg a) (hp : H p = some (.ins a.C_Book dx [])) (h : After nx σ (upd H p (.ins a.C_Book dx (([("look", v)] : List (Str × V)))))) : ∃ a' C dx fs, V.ref p = .ref a' ∧ H a' = some (.ins C dx fs) ∧ Cls K C ∧ NoAttr K C "look" ∧ fs.length < 1000 ∧ After nx σ (upd H a' (.ins C dx (putF "look" v fs))) := ⟨p, _, dx, [], rfl, hp, T.cl_Book, T.n_Book_look, by show 0 < 1000; decide, by rw [show putF "look" v [] = ([("look", v)] : List (Str × V)) from pf_nil]; exact h⟩
theorem rd_Book_slots (T : Txt K mg a) (hp : H p = some (.ins a.C_Book dx (F_Book v0 v1))) (h : P v1) : ∃ a' C dx fs v, V.ref p = .ref a' ∧ H a' = some (.ins C dx fs) ∧ Cls K C ∧ NoAttr K C "slots" ∧ fs.lookup ("slots" : Str) = some v ∧ P v := ⟨p, _, dx, _, _, rfl, hp, T.cl_Book, T.n_Book_slots, (lk_tl (by decide +kernel) lk_hd), h⟩
theorem st_Book_slots (T : Txt K mg a) (hp : H p = some (.ins a.C_Book dx (F_Book v0 v1))) (h : After nx σ (upd H p (.ins a.C_Book dx (F_Book v0 v)))) : ∃ a' C dx fs, V.ref p = .ref a' ∧ H a' = some (.ins C dx fs) ∧ Cls K C ∧ NoAttr K C "slots" ∧ fs.length < 1000 ∧ After nx σ (upd H a' (.ins C dx (putF "slots" v fs))) := ⟨p, _, dx, F_Book v0 v1, rfl, hp, T.cl_Book, T.n_Book_slots, by show 2 < 1000; decide, by rw [show putF "slots" v (F_Book v0 v1) = F_Book v0 v from (pf_tl (by decide +kernel) pf_hd)]; exact h⟩
theorem s0_Book_slots (T : Txt K mg a) (hp : H p = some (.ins a.C_Book dx [("look", v0)])) (h : After nx σ (upd H p (.ins a.C_Book dx (F_Book v0 v)))) : ∃ a' C dx fs, V.ref p = .ref a' ∧ H a' = some (.ins C dx fs) ∧ Cls K C ∧ NoAttr K C "slots" ∧ fs.length < 1000 ∧ After nx σ (upd H a' (.ins C dx (putF "slots" v fs))) := ⟨p, _, dx, [("look", v0)], rfl, hp, T.cl_Book, T.n_Book_slots, by show 1 < 1000; decide, by rw [show putF "slots" v [("look", v0)] = F_Book v0 v from (pf_tl (by decide +kernel) pf_nil)]; exact h⟩
theorem nk_Book___init__ : (F_Book v0 v1).lookup ("__init__" : Str) = none := (lk_tl (by decide +kernel) (lk_tl (by decide +kernel) lk_nil))
theorem mt_Book___init__ {C : Addr} (hp : H p = some (.ins C dx (F_Book v0 v1))) (h : R) : ∃ a dx fs, V.ref p = .ref a ∧ H a = some (.ins C dx fs) ∧ fs.lookup ("__init__" : Str) = none ∧ R := ⟨p, dx, _, rfl, hp, nk_Book___init__, h⟩
theorem nk_Book_chance : (F_Book v0 v1).lookup ("chance" : Str) = none := (lk_tl (by decide +kernel) (lk_tl (by decide +kernel) lk_nil))
theorem mt_Book_chance {C : Addr} (hp : H p = some (.ins C dx (F_Book v0 v1))) (h : R) : ∃ a dx fs, V.ref p = .ref a ∧ H a = some (.ins C dx fs) ∧ fs.lookup ("chance" : Str) = none ∧ R := ⟨p, dx, _, rfl, hp, nk_Book_chance, h⟩
theorem nk_Book_slot_at : (F_Book v0 v1).lookup ("slot_at" : Str) = none := (lk_tl (by decide +kernel) (lk_tl (by decide +kernel) lk_nil))
theorem mt_Book_slot_at {C : Addr} (hp : H p = some (.ins C dx (F_Book v0 v1))) (h : R) : ∃ a dx fs, V.ref p = .ref a ∧ H a = some (.ins C dx fs) ∧ fs.lookup ("slot_at" : Str) = none ∧ R := ⟨p, dx, _, rfl, hp, nk_Book_slot_at, h⟩
theorem nk_Book_seen : (F_Book v0 v1).lookup ("seen" : Str) = none := (lk_tl (by decide +kernel) (lk_tl (by decide +kernel) lk_nil))
theorem mt_Book_seen {C : Addr} (hp : H p = some (.ins C dx (F_Book v0 v1))) (h : R) : ∃ a dx fs, V.ref p = .ref a ∧ H a = some (.ins C dx fs) ∧ fs.lookup ("seen" : Str) = none ∧ R := ⟨p, dx, _, rfl, hp, nk_Book_seen, h⟩
end
local macro_rules | `(tactic| walk_at "rd1") => `(tactic| first
  | (with_reducible refine' rd_Book_look (by assumption) ?rdh ?_; (case rdh => first | assumption | exact upd_same))
  | (with_reducible refine' st_Book_look (by assumption) ?rdh ?_; (case rdh => first | assumption | exact upd_same))
  | (with_reducible refine' s0_Book_look (by assumption) ?rdh ?_; (case rdh => first | assumption | exact upd_same))
  | (with_reducible refine' rd_Book_slots (by assumption) ?rdh ?_; (case rdh => first | assumption | exact upd_same))
  | (with_reducible refine' st_Book_slots (by assumption) ?rdh ?_; (case rdh => first | assumption | exact upd_same))
  | (with_reducible refine' s0_Book_slots (by assumption) ?rdh ?_; (case rdh => first | assumption | exact upd_same))
  | (with_reducible refine' mt_Book___init__ ?rdh ?_; (case rdh => first | assumption | exact upd_same))
  | (with_reducible refine' mt_Book_chance ?rdh ?_; (case rdh => first | assumption | exact upd_same))
  | (with_reducible refine' mt_Book_slot_at ?rdh ?_; (case rdh => first | assumption | exact upd_same))
  | (with_reducible refine' mt_Book_seen ?rdh ?_; (case rdh => first | assumption | exact upd_same))
)
open SpanMath
/-- all but p stands as it stood -/
def But (p : Addr) (H H' : Hp) : Prop := ∀ b o, H b = some o → b ≠ p → H' b = some o
theorem But.refl {p : Addr} {H : Hp} : But p H H := fun _ _ h _ => h
theorem But.of {p : Addr} {H H' : Hp} (s : Same H H') : But p H H' := fun b o h _ => s b o h
theorem But.trans {p : Addr} {H H1 H2 : Hp} (x : But p H H1) (y : But p H1 H2) : But p H H2 := fun b o h n => y b o (x b o h n) n
theorem But.upd {p : Addr} {H : Hp} {o : HO} : But p H (L2.upd H p o) := fun b u h n => by rw [upd_ne n]; exact h
theorem But.seq {K : PySem.W.Frag} {p l C dx : Addr} {fs : List (Str × V)} {H H' : Hp} {xs : List V} (e : But p H H') (hp : H p = some (.ins C dx fs)) (h : SqL K H l xs) : SqL K H' l xs := by
  rcases h with (h | ⟨o, h⟩) | h
  · exact .inl (.inl (e _ _ h (ne_of h hp (by intro z; cases z))))
  · exact .inl (.inr ⟨o, e _ _ h (ne_of h hp (by intro z; cases z))⟩)
  · exact .inr h
theorem But.tup {p l C dx : Addr} {fs : List (Str × V)} {H H' : Hp} {xs : List V} (e : But p H H') (hp : H p = some (.ins C dx fs)) (h : H l = some (.tup xs)) : H' l = some (.tup xs) := e _ _ h (ne_of h hp (by intro z; cases z))
theorem But.lst {p l C dx : Addr} {fs : List (Str × V)} {H H' : Hp} {xs : List V} (e : But p H H') (hp : H p = some (.ins C dx fs)) (h : H l = some (.lst xs)) : H' l = some (.lst xs) := e _ _ h (ne_of h hp (by intro z; cases z))
theorem wholeV_int {x : V} (h : wholeV x = true) : ∃ i, x = .int i := by
  cases x with
  | int i => exact ⟨i, rfl⟩
  | _ => cases h
def bitV : V → Bool
  | .int i => decide (0 ≤ i) && decide (i ≤ 1)
  | _ => false
def sp_lwhole (K : PySem.W.Frag) : Sp := fun vs H Q _ => ∃ x n, vs = [x] ∧ TyOf K H x (.type n) ∧ Q (.bl (wholeV x)) H
theorem lw_int {K : PySem.W.Frag} {i : Int} {H : Hp} {Q : VK} {E : XK} (h : Q (.bl true) H) : sp_lwhole K [.int i] H Q E := ⟨_, _, rfl, .int i, h⟩
/-- a slot: its kind and what it has seen -/
inductive Slt where
  | ev (n o : Int)
  | qk (h : Int)
  | rn (l n : Int)
def Slt.ok : Slt → Prop
  | .ev n o => 0 ≤ n ∧ 0 ≤ o ∧ n + o ≤ 255
  | .qk h => 32768 ≤ h ∧ h ≤ 16744448
  | .rn l n => 0 ≤ l ∧ l ≤ 1 ∧ 0 ≤ n ∧ n ≤ 255
def rnGive (n : Int) : Int := (2 * n + 1) * 16777216 / (2 * n + 2)
def Slt.due : Slt → Int
  | .ev n o => (2 * o + 1) * 16777216 / (2 * (n + o) + 2)
  | .qk h => h
  | .rn l n => if l = 1 then rnGive n else 16777216 - rnGive n
def evSee (n o : Int) : Slt := if 255 < n + o then .ev ((n + 1) / 2) ((o + 1) / 2) else .ev n o
def clampQ (m : Int) : Int := if 16744448 < (if 32768 > m then 32768 else m) then 16744448 else (if 32768 > m then 32768 else m)
def Slt.see : Slt → Int → Slt
  | .ev n o, b => if b = 1 then evSee n (o + 1) else evSee (n + 1) o
  | .qk h, b => .qk (clampQ (if b = 1 then h + (16777216 - h) / 16 else h - h / 16))
  | .rn l n, b => if b = l then .rn l (if 255 < n + 1 then 255 else n + 1) else .rn b 1
def oS (a : Ads) (dx : Addr) : Slt → HO
  | .ev n o => .ins a.C_Even dx (F_Even (.int n) (.int o))
  | .qk h => .ins a.C_Quick dx (F_Quick (.int h))
  | .rn l n => .ins a.C_Run dx (F_Run (.int l) (.int n))
theorem evSee_ok {n o : Int} (h1 : 0 ≤ n) (h2 : 0 ≤ o) (h3 : n + o ≤ 256) : (evSee n o).ok := by
  unfold evSee
  split
  · exact ⟨by omega, by omega, by omega⟩
  · exact ⟨h1, h2, by omega⟩
theorem clampQ_ok (m : Int) : 32768 ≤ clampQ m ∧ clampQ m ≤ 16744448 := by
  unfold clampQ
  split <;> split <;> omega
theorem Slt.see_ok {s : Slt} {b : Int} (h : s.ok) (b0 : 0 ≤ b) (b1 : b ≤ 1) : (s.see b).ok := by
  cases s with
  | ev n o =>
    obtain ⟨h1, h2, h3⟩ := h
    unfold Slt.see
    dsimp only
    split
    · exact evSee_ok h1 (by omega) (by omega)
    · exact evSee_ok (by omega) h2 (by omega)
  | qk h0 => exact clampQ_ok _
  | rn l n =>
    obtain ⟨h1, h2, h3, h4⟩ := h
    unfold Slt.see
    dsimp only
    split
    · refine ⟨h1, h2, ?_, ?_⟩ <;> split <;> omega
    · exact ⟨b0, b1, by decide, by decide⟩
def kdS : Fin 3 → Str
  | 0 => "even"
  | 1 => "quick"
  | 2 => "run"
def kd0 : Fin 3 → Slt
  | 0 => .ev 0 0
  | 1 => .qk 8388608
  | 2 => .rn 1 0
theorem kd0_ok (k : Fin 3) : (kd0 k).ok := by
  match k with
  | 0 => exact ⟨by decide, by decide, by decide⟩
  | 1 => exact ⟨by decide, by decide⟩
  | 2 => exact ⟨by decide, by decide, by decide, by decide⟩
theorem bit_of {b : Int} (b0 : 0 ≤ b) (b1 : b ≤ 1) : bitV (.int b) = true := by
  simp only [bitV, Bool.and_eq_true, decide_eq_true_eq]
  omega
theorem of_bit {x : V} (h : bitV x = true) : ∃ b : Int, x = .int b ∧ 0 ≤ b ∧ b ≤ 1 := by
  cases x with
  | int i =>
    simp only [bitV, Bool.and_eq_true, decide_eq_true_eq] at h
    exact ⟨i, rfl, h.1, h.2⟩
  | _ => cases h
def sp_sinit (C : Addr) (F : List (Str × V)) : Sp := fun vs H Q _ => ∃ (p dx : Addr), vs = [.ref p] ∧ H p = some (.ins C dx []) ∧ ∀ H', H' p = some (.ins C dx F) → But p H H' → Q .non H'
/-- what a slot tells: s of any kind that f knows -/
def sp_schance (o : Addr → Slt → HO) (g : Slt → Prop) : Sp := fun vs H Q _ => ∃ (p dx : Addr) (s : Slt), vs = [.ref p] ∧ g s ∧ s.ok ∧ H p = some (o dx s) ∧ Q (.int s.due) H
def sp_sseen (K : PySem.W.Frag) (o : Addr → Slt → HO) (g : Slt → Prop) (C : Addr) : Sp := fun vs H Q E => ∃ (p dx : Addr) (s : Slt) (x : V) (n : String), vs = [.ref p, x] ∧ g s ∧ s.ok ∧ H p = some (o dx s) ∧ TyOf K H x (.type n) ∧
  (∀ b : Int, x = .int b → 0 ≤ b → b ≤ 1 → ∀ H', H' p = some (o dx (s.see b)) → But p H H' → Q .non H') ∧ (bitV x = false → E (.ref C) none H)
def isEv : Slt → Prop
  | .ev _ _ => True
  | _ => False
def isQk : Slt → Prop
  | .qk _ => True
  | _ => False
def isRn : Slt → Prop
  | .rn _ _ => True
  | _ => False
/-- bits -/
def Bits (bs : List Int) : Prop := ∀ b ∈ bs, 0 ≤ b ∧ b ≤ 1
theorem line_le {n : Nat} (h : n ≤ 16000000) : n ≤ sizeLine := Nat.le_trans h (by decide)
theorem line_lt {n : Nat} (h : n ≤ 16000000) : n < sizeLine := Nat.lt_of_le_of_lt h (by decide)
/-- a list's part is a list of ints -/
theorem cut_sub (ns : List Int) (lo hi : Option Int) : ∃ ms : List Int, cutV (ns.map V.int) lo hi = ms.map V.int ∧ ms.length ≤ ns.length ∧ ∀ m ∈ ms, m ∈ ns := by
  refine ⟨(ns.drop (HT.sIx (ns.map V.int).length 0 lo)).take (HT.sIx (ns.map V.int).length (ns.map V.int).length hi - HT.sIx (ns.map V.int).length 0 lo), ?_, ?_, ?_⟩
  · unfold cutV
    rw [List.map_take, List.map_drop]
  · rw [List.length_take, List.length_drop]
    omega
  · intro m hm
    exact List.mem_of_mem_drop (List.mem_of_mem_take hm)
theorem getInt {ns : List Int} {i : Nat} {x : V} (h : (ns.map V.int)[i]? = some x) : ∃ n, x = .int n ∧ n ∈ ns ∧ ns[i]? = some n ∧ i < ns.length := by
  rw [List.getElem?_map] at h
  cases e : ns[i]? with
  | none => rw [e] at h; cases h
  | some n =>
    rw [e] at h
    have hi : i < ns.length := by
      rcases Nat.lt_or_ge i ns.length with q | q
      · exact q
      · rw [List.getElem?_eq_none q] at e; cases e
    exact ⟨n, (Option.some.inj h).symm, List.mem_of_getElem? e, rfl, hi⟩
theorem bits_app {xs ys : List Int} (h1 : Bits xs) (h2 : Bits ys) : Bits (xs ++ ys) := fun b hb => by
  rcases List.mem_append.mp hb with h | h
  · exact h1 b h
  · exact h2 b h
theorem flat_ints (c : Int) (n : Nat) : (List.replicate n [V.int c]).flatten = (List.replicate n c).map V.int := by
  induction n with
  | zero => rfl
  | succ n ih => rw [List.replicate_succ, List.flatten_cons, ih, List.replicate_succ]; rfl
/-- the sign so many back -/
def back (sg : List Int) (p : Int) : Int := if p ≤ sg.length then (atI sg (-p)).getD 256 else 256
theorem map_atI {α β : Type} (f : α → β) (xs : List α) (i : Int) : atI (xs.map f) i = (atI xs i).map f := by
  unfold atI
  rw [List.length_map]
  cases ixN xs.length i with
  | none => rfl
  | some j =>
    show (xs.map f)[j]? = (xs[j]?).map f
    rw [List.getElem?_map]
theorem atI_back {sg : List Int} {p : Int} (h1 : 1 ≤ p) (h2 : p ≤ sg.length) : ∃ c, atI sg (-p) = some c ∧ c ∈ sg := by
  unfold atI ixN
  rw [if_neg (by omega)]
  by_cases h : -(sg.length : Int) ≤ -p
  · rw [if_pos (by omega)]
    have hj : ((-p + (sg.length : Int)).toNat) < sg.length := by omega
    exact ⟨_, List.getElem?_eq_getElem hj, List.getElem_mem hj⟩
  · omega
def Slt.kind : Slt → Fin 3
  | .ev _ _ => 0
  | .qk _ => 1
  | .rn _ _ => 2
theorem kind_see (s : Slt) (b : Int) : (s.see b).kind = s.kind := by
  cases s with
  | ev n o =>
    unfold Slt.see evSee
    dsimp only
    split <;> split <;> rfl
  | qk h => rfl
  | rn l n =>
    unfold Slt.see
    dsimp only
    split <;> rfl
theorem kind_kd0 (k : Fin 3) : (kd0 k).kind = k := by
  match k with
  | 0 => rfl
  | 1 => rfl
  | 2 => rfl
theorem oS_ins (a : Ads) (dx : Addr) (s : Slt) : ∃ C fs, oS a dx s = .ins C dx fs := by
  cases s <;> exact ⟨_, _, rfl⟩
/-- a slot of any of the three kinds is asked, is told a bit -/
theorem i_chance3 {p dx : Addr} {s : Slt} {ta : TE} {σ : St} {H : Hp} {Q : VK} {E1 E2 E3 : XK} (hta : ∀ Q' : VK, Q' (.ref p) H → ta σ H Q') (hp : H p = some (oS a dx s)) (ok : s.ok) (h : Q (.int s.due) H) :
    tAlt (tMeth a.C_Even "chance" (sp_schance (oS a) isEv) [] E1 ta tNil) (tAlt (tMeth a.C_Quick "chance" (sp_schance (oS a) isQk) [] E2 ta tNil) (tMeth a.C_Run "chance" (sp_schance (oS a) isRn) [] E3 ta tNil)) σ H Q := by
  cases s with
  | ev n o => exact i_altL (i_meth (hta _ ⟨p, dx, _, rfl, hp, nk_Even_chance, p, dx, .ev n o, rfl, trivial, ok, hp, h⟩))
  | qk h0 => exact i_altR (i_altL (i_meth (hta _ ⟨p, dx, _, rfl, hp, nk_Quick_chance, p, dx, .qk h0, rfl, trivial, ok, hp, h⟩)))
  | rn l n => exact i_altR (i_altR (i_meth (hta _ ⟨p, dx, _, rfl, hp, nk_Run_chance, p, dx, .rn l n, rfl, trivial, ok, hp, h⟩)))
/-- the slot at hand is told a bit: it is known of which kind it is -/
theorem i_seen3K {kd : Fin 3} {R : Addr → Addr → Slt → Hp → Prop} {ta : TE} {t : TA} {σ : St} {H : Hp} {Q : VK} {E1 E2 E3 : St → XK} {x : V} {n : String}
    (hta : ∀ Q' : VK, (∀ q dq s H2, H2 q = some (oS a dq s) → s.ok → s.kind = kd → R q dq s H2 → Q' (.ref q) H2) → ta σ H Q') (ht : ∀ (H2 : Hp) (Q' : List V → Hp → Prop), Q' [x] H2 → t σ H2 Q')
    (h : ∀ q dq s H2, H2 q = some (oS a dq s) → s.ok → R q dq s H2 → TyOf K H2 x (.type n) ∧ (∀ b : Int, x = .int b → 0 ≤ b → b ≤ 1 → ∀ H', H' q = some (oS a dq (s.see b)) → But q H2 H' → Q .non H')) (hb : bitV x = true) :
    tAlt (tMethE a.C_Even "seen" (sp_sseen K (oS a) isEv a.C_NoBit) [] E1 ta t) (tAlt (tMethE a.C_Quick "seen" (sp_sseen K (oS a) isQk a.C_NoBit) [] E2 ta t) (tMethE a.C_Run "seen" (sp_sseen K (oS a) isRn a.C_NoBit) [] E3 ta t)) σ H Q := by
  match kd with
  | 0 =>
    refine i_altL (i_methE (hta _ fun q dq s H2 hq ok hk r => ?_))
    obtain ⟨ty, h1⟩ := h q dq s H2 hq ok r
    cases s with
    | ev n o => exact ⟨q, dq, _, rfl, hq, nk_Even_seen, ht _ _ ⟨q, dq, .ev n o, x, _, rfl, trivial, ok, hq, ty, h1, fun z => by rw [hb] at z; cases z⟩⟩
    | qk _ => cases hk
    | rn _ _ => cases hk
  | 1 =>
    refine i_altR (i_altL (i_methE (hta _ fun q dq s H2 hq ok hk r => ?_)))
    obtain ⟨ty, h1⟩ := h q dq s H2 hq ok r
    cases s with
    | qk h0 => exact ⟨q, dq, _, rfl, hq, nk_Quick_seen, ht _ _ ⟨q, dq, .qk h0, x, _, rfl, trivial, ok, hq, ty, h1, fun z => by rw [hb] at z; cases z⟩⟩
    | ev _ _ => cases hk
    | rn _ _ => cases hk
  | 2 =>
    refine i_altR (i_altR (i_methE (hta _ fun q dq s H2 hq ok hk r => ?_)))
    obtain ⟨ty, h1⟩ := h q dq s H2 hq ok r
    cases s with
    | rn l n => exact ⟨q, dq, _, rfl, hq, nk_Run_seen, ht _ _ ⟨q, dq, .rn l n, x, _, rfl, trivial, ok, hq, ty, h1, fun z => by rw [hb] at z; cases z⟩⟩
    | ev _ _ => cases hk
    | qk _ => cases hk
/-- an item of a list in bounds -/
theorem atI_any {xs : List V} {i : Int} (h0 : 0 ≤ i) (h1 : i < xs.length) : ∃ v, v ∈ xs ∧ atI xs i = some v := by
  obtain ⟨j, rfl⟩ : ∃ j : Nat, i = (j : Int) := ⟨i.toNat, by omega⟩
  have hj : j < xs.length := by omega
  exact ⟨xs[j], List.getElem_mem hj, atI_nat (List.getElem?_eq_getElem hj)⟩
theorem rdVs_bls {K : PySem.W.Frag} {H : Hp} : ∀ bs : List Bool, RdVs K H (bs.map V.bl) (bs.map PyData.bool)
  | [] => .nil
  | n :: r => .cons (.bl n) (rdVs_bls r)
theorem canLay_bls : ∀ ns : List Bool, PyData.canLayAll0 (ns.map PyData.bool) = true
  | [] => rfl
  | _ :: r => by simp [PyData.canLayAll0, PyData.canLay0, canLay_bls r]
theorem depth_bls : ∀ ns : List Bool, PyData.depthAll (ns.map PyData.bool) = 0
  | [] => rfl
  | _ :: r => by simp [PyData.depthAll, PyData.depth, depth_bls r]
theorem shaped_bls (ns : List Bool) : SeqAt.shaped (.list (ns.map PyData.bool)) = true := by
  simp [SeqAt.shaped, PyData.canLay0, PyData.depth, canLay_bls, depth_bls]
theorem eqvAll_bls : ∀ ns ms : List Bool, PyData.eqvAll (ns.map PyData.bool) (ms.map PyData.bool) = decide (ns = ms)
  | [], [] => by simp [PyData.eqvAll]
  | [], _ :: _ => by simp [PyData.eqvAll]
  | _ :: _, [] => by simp [PyData.eqvAll]
  | a :: r, b :: t => by
    simp only [List.map_cons, PyData.eqvAll, PyData.eqv, eqvAll_bls r t]
    by_cases h : a = b <;> by_cases h' : r = t <;> simp [h, h']
theorem i_eqLB {K : PySem.W.Frag} {g : Bool → Bool} {H : Hp} {Q : VK} {a b : Addr} (ns ms : List Bool) (ha : SqL K H a (ns.map V.bl)) (hb : SqL K H b (ms.map V.bl)) (h : Q (.bl (g (decide (ns = ms)))) H) : rEqD K g (.ref a) (.ref b) H Q :=
  ⟨_, _, .lst ha (rdVs_bls ns), .lst hb (rdVs_bls ms), shaped_bls ns, shaped_bls ms, by rw [PyData.eqv, eqvAll_bls]; exact h⟩
theorem tysame {K : PySem.W.Frag} {H H' : Hp} {v : V} {n : String} (S : Same H H') (t : TyOf K H v (.type n)) : TyOf K H' v (.type n) := by
  cases t with
  | non => exact .non
  | bl b => exact .bl b
  | int i => exact .int i
  | str x => exact .str x
  | flt x => exact .flt x
  | lst e => exact .lst (S _ _ e)
  | frz e => exact .frz (S _ _ e)
  | tup e => exact .tup (S _ _ e)
  | dK e => exact .dK (S _ _ e)
  | dT e => exact .dT (S _ _ e)
def bkDue : Option Slt → Int
  | some s => s.due
  | none => 8388608
def updF (f : List Int → Option Slt) (k : List Int) (s : Slt) : List Int → Option Slt := fun j => if j = k then some s else f j
def isOb : HO → Bool
  | .ins _ _ _ => true
  | .dT _ => true
  | _ => false
def kI (k : List Int) : List Key := k.map Sum.inl
theorem kI_map (k : List Int) : (kI k).map kV = k.map V.int := by
  unfold kI
  rw [List.map_map]
  rfl
theorem kI_inj {j k : List Int} (h : kI j = kI k) : j = k := by
  unfold kI at h
  induction j generalizing k with
  | nil =>
    cases k with
    | nil => rfl
    | cons _ _ => cases h
  | cons x r ih =>
    cases k with
    | nil => cases h
    | cons y s =>
      injection h with h1 h2
      injection h1 with h1
      rw [h1, ih h2]
/-- a book at p: its look at lk, its dict at d; f: what its slots hold; O: its dict and its slots -/
structure BkAt (a : Ads) (H : Hp) (p dx lk d : Addr) (kd : Fin 3) (f : List Int → Option Slt) (O : Addr → Prop) (m : Nat) : Prop where
  me : H p = some (.ins a.C_Book dx (F_Book (.ref lk) (.ref d)))
  own : ∀ b, O b → ∃ o, H b = some o ∧ isOb o = true
  np : ¬ O p
  dO : O d
  tb : ∃ (kvs : List (List Key × V)) (loc : List Int → Addr × Addr), H d = some (.dT kvs) ∧ kvs.length ≤ m ∧ (∀ k, f k = none → valV kvs (kI k) = none) ∧
    (∀ k s, f k = some s → valV kvs (kI k) = some (.ref (loc k).1) ∧ H (loc k).1 = some (oS a (loc k).2 s) ∧ s.ok ∧ s.kind = kd ∧ O (loc k).1) ∧ (∀ k j s t, f k = some s → f j = some t → (loc k).1 = (loc j).1 → k = j)
/-- all but what O has stands as it stood -/
def ButO (O : Addr → Prop) (H H' : Hp) : Prop := ∀ b o, H b = some o → ¬ O b → H' b = some o
section
variable {a : Ads} {H H' : Hp} {p dx lk d : Addr} {kd : Fin 3} {f : List Int → Option Slt} {O : Addr → Prop} {m : Nat}
theorem BkAt.frame (h : BkAt a H p dx lk d kd f O m) {O2 : Addr → Prop} (B : ButO O2 H H') (dj : ∀ b, O b → ¬ O2 b) (hp : ¬ O2 p) : BkAt a H' p dx lk d kd f O m := by
  obtain ⟨kvs, loc, h1, h2, h3, h4, h5⟩ := h.tb
  refine ⟨B _ _ h.me hp, fun b hb => ?_, h.np, h.dO, kvs, loc, B _ _ h1 (dj _ h.dO), h2, h3, fun k s hk => ?_, h5⟩
  · obtain ⟨o, ho, hi⟩ := h.own b hb
    exact ⟨o, B _ _ ho (dj b hb), hi⟩
  · obtain ⟨q1, q2, q3, q4, q5⟩ := h4 k s hk
    exact ⟨q1, B _ _ q2 (dj _ q5), q3, q4, q5⟩
theorem BkAt.same (h : BkAt a H p dx lk d kd f O m) (S : Same H H') : BkAt a H' p dx lk d kd f O m := h.frame (O2 := fun _ => False) (fun b o e _ => S b o e) (fun _ _ z => z) (fun z => z)
theorem BkAt.lst (h : BkAt a H p dx lk d kd f O m) (B : ButO O H H') {l : Addr} {xs : List V} (e : H l = some (.lst xs)) : H' l = some (.lst xs) := B _ _ e fun z => by
  obtain ⟨o, ho, hi⟩ := h.own l z
  rw [e] at ho
  cases ho
  cases hi
theorem BkAt.tup (h : BkAt a H p dx lk d kd f O m) (B : ButO O H H') {l : Addr} {xs : List V} (e : H l = some (.tup xs)) : H' l = some (.tup xs) := B _ _ e fun z => by
  obtain ⟨o, ho, hi⟩ := h.own l z
  rw [e] at ho
  cases ho
  cases hi
end
/-- the law's own state of a slot: noughts, ones, held, last, length -/
structure S5 where
  n : Int
  o : Int
  h : Int
  l : Int
  c : Int
def S5.v (x : S5) : List V := [.int x.n, .int x.o, .int x.h, .int x.l, .int x.c]
structure S5.Ok (x : S5) : Prop where
  n0 : 0 ≤ x.n
  o0 : 0 ≤ x.o
  no : x.n + x.o ≤ 255
  h0 : 32768 ≤ x.h
  h1 : x.h ≤ 16744448
  l0 : 0 ≤ x.l
  l1 : x.l ≤ 1
  c0 : 0 ≤ x.c
  c1 : x.c ≤ 255
def s50 : S5 := ⟨0, 0, 8388608, 0, 0⟩
theorem s50_ok : s50.Ok := ⟨by decide, by decide, by decide, by decide, by decide, by decide, by decide, by decide, by decide⟩
def due5 (kd : Fin 3) (x : S5) : Int := match kd with
  | 0 => (2 * x.o + 1) * 16777216 / (2 * (x.n + x.o) + 2)
  | 1 => x.h
  | 2 => if x.l = 1 then rnGive x.c else 16777216 - rnGive x.c
def len5 (x : S5) (b : Int) : Int := if 0 < x.c ∧ x.l = b then (if x.c + 1 < 255 then x.c + 1 else 255) else 1
def cnt5 (n o : Int) : Int × Int := if 255 < n + o then ((n + 1) / 2, (o + 1) / 2) else (n, o)
def mm5 (h : Int) : Int := if (if h > 32768 then h else 32768) < 16744448 then (if h > 32768 then h else 32768) else 16744448
def see5 (x : S5) (b : Int) : S5 := ⟨(cnt5 (x.n + 1 - b) (x.o + b)).1, (cnt5 (x.n + 1 - b) (x.o + b)).2, mm5 (if b = 1 then x.h + (16777216 - x.h) / 16 else x.h - x.h / 16), b, len5 x b⟩
theorem see5_ok {x : S5} (h : x.Ok) {b : Int} (b0 : 0 ≤ b) (b1 : b ≤ 1) : (see5 x b).Ok := by
  have hn := h.n0
  have ho := h.o0
  have hno := h.no
  have hc0 := h.c0
  have hc1 := h.c1
  have hm : ∀ y, 32768 ≤ mm5 y ∧ mm5 y ≤ 16744448 := fun y => by
    unfold mm5
    split <;> split <;> omega
  have hl : 0 ≤ len5 x b ∧ len5 x b ≤ 255 := by
    unfold len5
    split
    · split <;> omega
    · decide
  have hc : 0 ≤ (cnt5 (x.n + 1 - b) (x.o + b)).1 ∧ 0 ≤ (cnt5 (x.n + 1 - b) (x.o + b)).2 ∧ (cnt5 (x.n + 1 - b) (x.o + b)).1 + (cnt5 (x.n + 1 - b) (x.o + b)).2 ≤ 255 := by
    unfold cnt5
    split
    · refine ⟨?_, ?_, ?_⟩ <;> dsimp only <;> omega
    · refine ⟨?_, ?_, ?_⟩ <;> dsimp only <;> omega
  exact ⟨hc.1, hc.2.1, hc.2.2, (hm _).1, (hm _).2, b0, b1, hl.1, hl.2⟩
def Rl (kd : Fin 3) (x : S5) (s : Slt) : Prop := match kd with
  | 0 => s = .ev x.n x.o
  | 1 => s = .qk x.h
  | 2 => (x.c = 0 ∧ s = .rn 1 0) ∨ (1 ≤ x.c ∧ s = .rn x.l x.c)
theorem Rl0 (kd : Fin 3) : Rl kd s50 (kd0 kd) := by
  match kd with
  | 0 => rfl
  | 1 => rfl
  | 2 => exact .inl ⟨rfl, rfl⟩
theorem due0 (kd : Fin 3) : due5 kd s50 = 8388608 := by
  match kd with
  | 0 => rfl
  | 1 => rfl
  | 2 => rfl
theorem Rl.due {kd : Fin 3} {x : S5} {s : Slt} (h : Rl kd x s) : due5 kd x = s.due := by
  match kd, h with
  | 0, h => rw [show s = .ev x.n x.o from h]; rfl
  | 1, h => rw [show s = .qk x.h from h]; rfl
  | 2, h =>
    rcases h with ⟨h1, rfl⟩ | ⟨_, rfl⟩
    · show (if x.l = 1 then rnGive x.c else 16777216 - rnGive x.c) = _
      rw [h1]
      split <;> rfl
    · rfl
theorem Rl.see {kd : Fin 3} {x : S5} {s : Slt} (h : Rl kd x s) {b : Int} (b0 : 0 ≤ b) (b1 : b ≤ 1) (hx : x.Ok) : Rl kd (see5 x b) (s.see b) := by
  match kd, h with
  | 0, h =>
    rw [show s = .ev x.n x.o from h]
    show (Slt.ev x.n x.o).see b = .ev (cnt5 (x.n + 1 - b) (x.o + b)).1 (cnt5 (x.n + 1 - b) (x.o + b)).2
    obtain rfl | rfl : b = 0 ∨ b = 1 := by omega
    · unfold Slt.see evSee cnt5
      dsimp only
      rw [if_neg (by decide)]
      rw [show x.n + 1 - 0 = x.n + 1 by omega, show x.o + 0 = x.o by omega]
      split <;> rfl
    · unfold Slt.see evSee cnt5
      dsimp only
      rw [if_pos rfl]
      rw [show x.n + 1 - 1 = x.n by omega]
      split <;> rfl
  | 1, h =>
    rw [show s = .qk x.h from h]
    show Slt.qk (clampQ (if b = 1 then x.h + (16777216 - x.h) / 16 else x.h - x.h / 16)) = .qk (mm5 (if b = 1 then x.h + (16777216 - x.h) / 16 else x.h - x.h / 16))
    generalize (if b = 1 then x.h + (16777216 - x.h) / 16 else x.h - x.h / 16) = y
    congr 1
    unfold clampQ mm5
    split <;> split <;> split <;> (try split) <;> omega
  | 2, h =>
    have hc1 := hx.c1
    refine .inr ?_
    rcases h with ⟨h1, rfl⟩ | ⟨h1, rfl⟩
    · have e : len5 x b = 1 := by unfold len5; rw [if_neg (by omega)]
      refine ⟨by show 1 ≤ len5 x b; rw [e]; decide, ?_⟩
      show (Slt.rn 1 0).see b = .rn b (len5 x b)
      rw [e]
      unfold Slt.see
      dsimp only
      split
      · rename_i z
        rw [z]
        rfl
      · rfl
    · constructor
      · show 1 ≤ len5 x b
        unfold len5
        split
        · split <;> omega
        · decide
      · show (Slt.rn x.l x.c).see b = .rn b (len5 x b)
        unfold Slt.see len5
        dsimp only
        by_cases z : b = x.l
        · subst z
          rw [if_pos rfl, if_pos (show 0 < x.c ∧ x.l = x.l from ⟨by omega, rfl⟩)]
          congr 1
          split <;> split <;> omega
        · rw [if_neg z, if_neg (show ¬ (0 < x.c ∧ x.l = b) from fun w => z w.2.symm)]
def updG (g : List Int → Option S5) (k : List Int) (x : S5) : List Int → Option S5 := fun j => if j = k then some x else g j
theorem putK_len {κ : Type} [DecidableEq κ] (kvs : List (κ × V)) (k : κ) (v : V) : (putK kvs k v).length ≤ kvs.length + 1 := by
  unfold putK
  split
  · rw [List.length_map]
    omega
  · rw [List.length_append]
    exact Nat.le_refl _
/-- the law's dict at e -/
def LwAt (H : Hp) (e : Addr) (g : List Int → Option S5) (m : Nat) (N : Addr → Prop) : Prop := ∃ kvs : List (List Key × V), H e = some (.dT kvs) ∧ kvs.length ≤ m ∧ (∀ k, g k = none → valV kvs (kI k) = none) ∧ ∀ k x, g k = some x → x.Ok ∧ ∃ r, valV kvs (kI k) = some (.ref r) ∧ H r = some (.lst x.v) ∧ ¬ N r
theorem LwAt.mv {H H' : Hp} {e : Addr} {g : List Int → Option S5} {m m' : Nat} {N : Addr → Prop} (h : LwAt H e g m N) (hm : m ≤ m') (h1 : ∀ kvs, H e = some (.dT kvs) → H' e = some (.dT kvs)) (h2 : ∀ b xs, ¬ N b → H b = some (.lst xs) → H' b = some (.lst xs)) : LwAt H' e g m' N := by
  obtain ⟨kvs, q1, q2, q3, q4⟩ := h
  exact ⟨kvs, h1 _ q1, Nat.le_trans q2 hm, q3, fun k x hk => let ⟨a1, r, a2, a3, a4⟩ := q4 k x hk; ⟨a1, r, a2, h2 _ _ a4 a3, a4⟩⟩
theorem LwAt.ok {H : Hp} {e : Addr} {g : List Int → Option S5} {m : Nat} {N : Addr → Prop} (h : LwAt H e g m N) : ∀ k x, g k = some x → x.Ok := fun k x hk => by
  obtain ⟨_, _, _, _, q4⟩ := h
  exact (q4 k x hk).1
theorem LwAt.put {H : Hp} {e b r : Addr} {g : List Int → Option S5} {m : Nat} {N : Addr → Prop} {k : List Int} {x : S5} (h : LwAt H e g m N) (hm : m < 1000000) (hb : H b = some (.tup (k.map V.int))) (hr : H r = some (.lst x.v)) (nr : ¬ N r) (ok : x.Ok) :
    ∃ H', DPut H e (.ref b) (.ref r) H' ∧ LwAt H' e (updG g k x) (m + 1) N ∧ ∀ c o, H c = some o → c ≠ e → H' c = some o := by
  obtain ⟨kvs, q1, q2, q3, q4⟩ := h
  have hb' : H b = some (.tup ((kI k).map kV)) := by rw [kI_map]; exact hb
  refine ⟨_, DPut.t q1 hb' (line_lt (by omega)), ⟨_, upd_same, ?_, fun j hj => ?_, fun j y hj => ?_⟩, fun c o e n => upd_oth n e⟩
  · cases e1 : valV kvs (kI k) with
    | none =>
      rw [putK_new _ e1, List.length_append]
      show _ + 1 ≤ _
      omega
    | some v =>
      have hl := putK_len kvs (kI k) (.ref r)
      omega
  · unfold updG at hj
    split at hj
    · cases hj
    · rename_i z
      rw [valV_put, if_neg fun w => z (kI_inj w)]
      exact q3 j hj
  · unfold updG at hj
    split at hj
    · rename_i z
      cases hj
      subst z
      refine ⟨ok, r, by rw [valV_put, if_pos rfl], upd_oth (ne_of hr q1 (by intro z; cases z)) hr, nr⟩
    · rename_i z
      obtain ⟨a1, r', a2, a3, a4⟩ := q4 j y hj
      refine ⟨a1, r', by rw [valV_put, if_neg fun w => z (kI_inj w)]; exact a2, upd_oth (ne_of a3 q1 (by intro z; cases z)) a3, a4⟩
def Agr (kd : Fin 3) (f : List Int → Option Slt) (g : List Int → Option S5) : Prop := ∀ k, (f k = none ∧ g k = none) ∨ ∃ s x, f k = some s ∧ g k = some x ∧ Rl kd x s
theorem Agr.due {kd : Fin 3} {f : List Int → Option Slt} {g : List Int → Option S5} (h : Agr kd f g) (k : List Int) : due5 kd ((g k).getD s50) = bkDue (f k) := by
  rcases h k with ⟨h1, h2⟩ | ⟨s, x, h1, h2, h3⟩
  · rw [h1, h2]
    exact due0 kd
  · rw [h1, h2]
    exact h3.due
theorem Agr.see {kd : Fin 3} {f : List Int → Option Slt} {g : List Int → Option S5} (h : Agr kd f g) (ok : ∀ k x, g k = some x → x.Ok) (k : List Int) {b : Int} (b0 : 0 ≤ b) (b1 : b ≤ 1) :
    Agr kd (updF f k (((f k).getD (kd0 kd)).see b)) (updG g k (see5 ((g k).getD s50) b)) := fun j => by
  unfold updF updG
  by_cases z : j = k
  · rw [if_pos z, if_pos z]
    refine .inr ⟨_, _, rfl, rfl, ?_⟩
    rcases h k with ⟨h1, h2⟩ | ⟨s, x, h1, h2, h3⟩
    · rw [h1, h2]
      exact (Rl0 kd).see b0 b1 s50_ok
    · rw [h1, h2]
      exact h3.see b0 b1 (ok k x h2)
  · rw [if_neg z, if_neg z]
    exact h j
theorem back_some {sg : List Int} {p : Int} (h1 : 1 ≤ p) (h8 : p ≤ 8) : atI ((List.replicate 8 (256 : Int) ++ sg).map V.int) (((List.replicate 8 (256 : Int) ++ sg).map V.int).length - p) = some (V.int (back sg p)) := by
  have hl : (List.replicate 8 (256 : Int) ++ sg).length = 8 + sg.length := by rw [List.length_append, List.length_replicate]
  rw [List.length_map, hl]
  obtain ⟨j, hj⟩ : ∃ j : Nat, ((8 + sg.length : Nat) : Int) - p = (j : Int) := ⟨(((8 + sg.length : Nat) : Int) - p).toNat, by omega⟩
  rw [hj]
  refine atI_nat ?_
  rw [List.getElem?_map]
  unfold back
  by_cases hp : p ≤ sg.length
  · rw [if_pos hp, List.getElem?_append_right (by rw [List.length_replicate]; omega), List.length_replicate]
    have e : atI sg (-p) = sg[j - 8]? := by
      unfold atI ixN
      rw [if_neg (by omega), if_pos (by omega)]
      show sg[(-p + (sg.length : Int)).toNat]? = _
      congr 1
      omega
    rw [e, List.getElem?_eq_getElem (show j - 8 < sg.length by omega)]
    rfl
  · rw [if_neg hp, List.getElem?_append_left (by rw [List.length_replicate]; omega), List.getElem?_replicate, if_pos (by omega)]
    rfl
theorem BkAt.seq {K : PySem.W.Frag} {a : Ads} {H H' : Hp} {p dx lk d : Addr} {kd : Fin 3} {f : List Int → Option Slt} {O : Addr → Prop} {m : Nat} (h : BkAt a H p dx lk d kd f O m) (B : ButO O H H') {t : Addr} {xs : List V} (e : SqT K H t xs) : SqT K H' t xs := by
  have no : ∀ o : HO, H t = some o → isOb o = false → H' t = some o := fun o ho hi => B _ _ ho fun z => by
    obtain ⟨o', ho', hi'⟩ := h.own t z
    rw [ho] at ho'
    cases ho'
    rw [hi] at hi'
    cases hi'
  rcases e with (e | ⟨o, e⟩) | e
  · exact .inl (.inl (no _ e rfl))
  · exact .inl (.inr ⟨o, no _ e rfl⟩)
  · exact .inr e
/-- a decision's tuple: the signs ahead, the node, the bit -/
def DecAt (H : Hp) (F t : Addr) : Prop := ∃ (sl : Addr) (sg : List Int) (nd b : Int), H t = some (.tup [.ref sl, .int nd, .int b]) ∧ H sl = some (.lst (sg.map V.int)) ∧ sl ≠ F ∧ sg.length ≤ 20 ∧ 0 ≤ b ∧ b ≤ 1
def FdAt (H : Hp) (F : Addr) (n : Nat) : Prop := ∃ ts : List Addr, H F = some (.lst (ts.map V.ref)) ∧ ts.length ≤ n ∧ ∀ t ∈ ts, DecAt H F t
theorem FdAt.push {H H' : Hp} {F t sl : Addr} {n : Nat} {ts : List Addr} {sg : List Int} {nd b : Int} (hF : H F = some (.lst (ts.map V.ref))) (hn : ts.length ≤ n) (hd : ∀ t ∈ ts, DecAt H F t) (S : Same H H') (ht : H' t = some (.tup [.ref sl, .int nd, .int b])) (hs : H' sl = some (.lst (sg.map V.int))) (ns : sl ≠ F) (hz : sg.length ≤ 20) (b0 : 0 ≤ b) (b1 : b ≤ 1) :
    FdAt (upd H' F (.lst (ts.map V.ref ++ [.ref t]))) F (n + 1) := by
  have key : ∀ t' : Addr, DecAt H' F t' → DecAt (upd H' F (.lst (ts.map V.ref ++ [.ref t]))) F t' := fun t' h => by
    obtain ⟨sl', sg', nd', b', q1, q2, q3, q4⟩ := h
    exact ⟨sl', sg', nd', b', upd_oth (ne_of q1 (S _ _ hF) (by intro z; cases z)) q1, upd_oth q3 q2, q3, q4⟩
  refine ⟨ts ++ [t], by rw [upd_same, List.map_append]; rfl, by rw [List.length_append]; show _ + 1 ≤ _; omega, fun t' ht' => ?_⟩
  rcases List.mem_append.mp ht' with h | h
  · obtain ⟨sl', sg', nd', b', q1, q2, q3, q4⟩ := hd t' h
    exact key t' ⟨sl', sg', nd', b', S _ _ q1, S _ _ q2, q3, q4⟩
  · rw [List.mem_singleton.mp h]
    exact key t ⟨sl, sg, nd, b, ht, hs, ns, hz, b0, b1⟩
theorem sc_is_whole : FnScope ["thing"] ["thing"] (defScope s_is_whole) := ⟨rfl, rfl, rfl, by decide +kernel, rfl, by decide +kernel, by decide +kernel⟩
def sp_is_whole (K : PySem.W.Frag) : Sp := fun vs H Q _ => ∃ x n, vs = [x] ∧ TyOf K H x (.type n) ∧ Q (.bl (wholeV x)) H
theorem ok_is_whole (T : Txt K mg a) : FnOk P w K mg base CX0 1 a.f_is_whole a.d_is_whole ["thing"] (sp_is_whole K) := by
  refine T.F_is_whole.ok sc_is_whole (fun vs H Q E h => ?_) (fun cdv A outer s H vs Q E hr h => ?_)
  · obtain ⟨x, n, rfl, _⟩ := h
    rfl
  · obtain ⟨x, n, rfl, ty, k⟩ := h
    refine ⟨_, (pss_one (ps_ret (pe_and (pe_callB call_isinst rfl T.z_isinstance (by decide +kernel) (pa_cons (pv 0) (pa_cons (pe_bty (T := "int") rfl T.z_int (by decide +kernel)) pa_nil (star_ok rfl)) (star_ok rfl))) (pe_one (pe_not (pe_callB call_isinst rfl T.z_isinstance (by decide +kernel) (pa_cons (pv 0) (pa_cons (pe_bty (T := "bool") rfl T.z_bool (by decide +kernel)) pa_nil (star_ok rfl)) (star_ok rfl)))))))), ?_⟩
    try dsimp only [cxOf]
    refine i_start (σ' := [some _]) rfl ?_
    walk_at "rd"
    refine i_isi ty (kit_int ty) ?_
    walk_at "rd"
    cases hx : isIntV x with
    | false =>
      have e : wholeV x = false := by
        cases x <;> first | rfl | cases hx
      rw [e] at k
      exact iteF k
    | true =>
      have e : wholeV x = !isBoolV x := by
        cases x <;> first | rfl | cases hx
      rw [e] at k
      refine iteT ?_
      walk_at "rd"
      refine i_isi ty (kit_bool ty) ?_
      walk_at "rd"
      exact k
theorem sc_is_bit : FnScope ["thing"] ["thing"] (defScope s_is_bit) := ⟨rfl, rfl, rfl, by decide +kernel, rfl, by decide +kernel, by decide +kernel⟩
def sp_is_bit (K : PySem.W.Frag) : Sp := fun vs H Q _ => ∃ x n, vs = [x] ∧ TyOf K H x (.type n) ∧ Q (.bl (bitV x)) H
theorem ok_is_bit (T : Txt K mg a) : FnOk P w K mg base CX0 2 a.f_is_bit a.d_is_bit ["thing"] (sp_is_bit K) := by
  refine T.F_is_bit.ok sc_is_bit (fun vs H Q E h => ?_) (fun cdv A outer s H vs Q E hr h => ?_)
  · obtain ⟨x, n, rfl, _⟩ := h
    rfl
  · obtain ⟨x, n, rfl, ty, k⟩ := h
    refine ⟨_, (pss_one (ps_ret (pe_and (pe_call (ok_is_whole T) (hr.mono (by decide)) rfl T.m_is_whole T.F_is_whole.kp T.B_is_whole .nil pass0 (pa_cons (pv 0) pa_nil (star_ok rfl))) (pe_one (pe_chain op_le op_le pe_int (pv 0) pe_int))))), ?_⟩
    try dsimp only [cxOf]
    refine i_start (σ' := [some _]) rfl ?_
    walk_at "rd"
    refine ⟨x, n, rfl, ty, ?_⟩
    walk_at "rd"
    cases hx : wholeV x with
    | false =>
      have e : bitV x = false := by
        cases x <;> first | rfl | cases hx
      rw [e] at k
      exact iteF k
    | true =>
      obtain ⟨i, rfl⟩ := wholeV_int hx
      refine iteT ?_
      walk_at "rd"
      refine iteD (fun h0 => ?_) (fun h0 => ?_)
      · walk_at "rd"
        have e : bitV (.int i) = decide (i ≤ 1) := by simp [bitV, h0]
        rw [e] at k
        exact k
      · have e : bitV (.int i) = false := by simp [bitV, h0]
        rw [e] at k
        exact k
theorem sc_check_bit : FnScope ["thing"] ["thing"] (defScope s_check_bit) := ⟨rfl, rfl, rfl, by decide +kernel, rfl, by decide +kernel, by decide +kernel⟩
def sp_check_bit (K : PySem.W.Frag) (C : Addr) : Sp := fun vs H Q E => ∃ x n, vs = [x] ∧ TyOf K H x (.type n) ∧ (bitV x = true → Q .non H) ∧ (bitV x = false → E (.ref C) none H)
theorem ok_check_bit (T : Txt K mg a) : FnOk P w K mg base (CXe P w) 3 a.f_check_bit a.d_check_bit ["thing"] (sp_check_bit K a.C_NoBit) := by
  refine T.F_check_bit.okE sc_check_bit (fun vs H Q E h => ?_) (fun cdv A outer s H vs Q E hr h => ?_)
  · obtain ⟨x, n, rfl, _⟩ := h
    rfl
  · obtain ⟨x, n, rfl, ty, k1, k2⟩ := h
    refine ⟨_, (pss_one (ps_if (pt_not (pt_val (pe_call (ok_is_bit T) (hr.mono (by decide)) rfl T.m_is_bit T.F_is_bit.kp T.B_is_bit .nil pass0 (pa_cons (pv 0) pa_nil (star_ok rfl))))) (pss_one (ps_raise rfl T.m_NoBit T.r_NoBit (pa_cons pe_str pa_nil (star_ok rfl)))) pss_nil)), ?_⟩
    try dsimp only [cxOf]
    refine i_start (σ' := [some _]) rfl ?_
    walk_at "rd"
    refine ⟨x, n, rfl, ty, ?_⟩
    walk_at "rd"
    cases hx : bitV x with
    | false =>
      walk_at "rd"
      exact ⟨by walk_at "len", k2 hx⟩
    | true =>
      walk_at "rd"
      exact k1 hx
theorem sc_Slot_chance : FnScope ["self"] ["self"] (defScope s_Slot_chance) := ⟨rfl, rfl, rfl, by decide +kernel, rfl, by decide +kernel, by decide +kernel⟩
def sp_pchance (C : Addr) : Sp := fun vs H Q _ => ∃ (p dx : Addr), vs = [.ref p] ∧ H p = some (.ins C dx []) ∧ Q (.int 8388608) H
theorem ok_Slot_chance (T : Txt K mg a) : FnOk P w K mg base CX0 1 a.f_Slot_chance a.d_Slot_chance ["self"] (sp_pchance a.C_Slot) := by
  refine T.F_Slot_chance.ok sc_Slot_chance (fun vs H Q E h => ?_) (fun cdv A outer s H vs Q E hr h => ?_)
  · obtain ⟨p, dx, rfl, _⟩ := h
    rfl
  · obtain ⟨p, dx, rfl, hp, k⟩ := h
    refine ⟨_, (pss_one (ps_ret (pe_op op_fdivB (pe_gint rfl T.c_ONE) pe_int))), ?_⟩
    try dsimp only [cxOf]
    refine i_start (σ' := [some _]) rfl ?_
    walk_at "rd"
    exact k
theorem sc_Even___init__ : FnScope ["self"] ["self"] (defScope s_Even___init__) := ⟨rfl, rfl, rfl, by decide +kernel, rfl, by decide +kernel, by decide +kernel⟩
theorem ok_Even___init__ (T : Txt K mg a) : FnOk P w K mg base CX0 1 a.f_Even___init__ a.d_Even___init__ ["self"] (sp_sinit a.C_Even (F_Even (.int 0) (.int 0))) := by
  refine T.F_Even___init__.ok sc_Even___init__ (fun vs H Q E h => ?_) (fun cdv A outer s H vs Q E hr h => ?_)
  · obtain ⟨p, dx, rfl, _⟩ := h
    rfl
  · obtain ⟨p, dx, rfl, hp, k⟩ := h
    refine ⟨_, (pss_cons (ps_fld (pv 0) pe_int rfl) (pss_one (ps_fld (pv 0) pe_int rfl))), ?_⟩
    try dsimp only [cxOf]
    refine i_start (σ' := [some _]) rfl ?_
    walk_at "rd"
    exact k _ upd_same (But.upd.trans But.upd)
theorem sc_Even_chance : FnScope ["self"] ["self"] (defScope s_Even_chance) := ⟨rfl, rfl, rfl, by decide +kernel, rfl, by decide +kernel, by decide +kernel⟩
theorem ok_Even_chance (T : Txt K mg a) : FnOk P w K mg base CX0 1 a.f_Even_chance a.d_Even_chance ["self"] (sp_schance (oS a) isEv) := by
  refine T.F_Even_chance.ok sc_Even_chance (fun vs H Q E h => ?_) (fun cdv A outer s H vs Q E hr h => ?_)
  · obtain ⟨p, dx, s, rfl, _⟩ := h
    rfl
  · obtain ⟨p, dx, s', rfl, hg, hs, hp, k⟩ := h
    cases s' with
    | ev n o =>
      obtain ⟨h1, h2, h3⟩ := hs
      have hp : H p = some (.ins a.C_Even dx (F_Even (.int n) (.int o))) := hp
      refine ⟨_, (pss_one (ps_ret (pe_op op_fdivB (pe_op op_mul (pe_op op_add (pe_op op_mul pe_int (pe_fld (pv 0) rfl)) pe_int) (pe_gint rfl T.c_ONE)) (pe_op op_add (pe_op op_mul pe_int (pe_op op_add (pe_fld (pv 0) rfl) (pe_fld (pv 0) rfl))) pe_int)))), ?_⟩
      try dsimp only [cxOf]
      refine i_start (σ' := [some _]) rfl ?_
      walk_at "rd"
      exact k
    | qk _ => exact hg.elim
    | rn _ _ => exact hg.elim
theorem sc_Even_seen : FnScope ["self", "bit"] ["self", "bit"] (defScope s_Even_seen) := ⟨rfl, rfl, rfl, by decide +kernel, rfl, by decide +kernel, by decide +kernel⟩
theorem ok_Even_seen (T : Txt K mg a) : FnOk P w K mg base (CXe P w) 4 a.f_Even_seen a.d_Even_seen ["self", "bit"] (sp_sseen K (oS a) isEv a.C_NoBit) := by
  refine T.F_Even_seen.okE sc_Even_seen (fun vs H Q E h => ?_) (fun cdv A outer s H vs Q E hr h => ?_)
  · obtain ⟨p, dx, s, x, n, rfl, _⟩ := h
    rfl
  · obtain ⟨p, dx, s', x, nm, rfl, hg, hs, hp, ty, k1, k2⟩ := h
    cases s' with
    | ev n o =>
      obtain ⟨h1, h2, h3⟩ := hs
      have hp : H p = some (.ins a.C_Even dx (F_Even (.int n) (.int o))) := hp
      refine ⟨_, (pss_cons (ps_expr (pe_callE (ok_check_bit T) (hr.mono (by decide)) rfl T.m_check_bit T.F_check_bit.kp T.B_check_bit .nil catch_fn (pa_cons (pv 1) pa_nil (star_ok rfl)))) (pss_cons (ps_if (pt_cmpR op_eq (pv 1) pe_int (nomark _)) (pss_one (ps_fld (pv 0) (pe_op op_add (pe_fld (pv 0) rfl) pe_int) rfl)) (pss_one (ps_fld (pv 0) (pe_op op_add (pe_fld (pv 0) rfl) pe_int) rfl))) (pss_one (ps_if (pt_cmpR op_gt (pe_op op_add (pe_fld (pv 0) rfl) (pe_fld (pv 0) rfl)) (pe_gint rfl T.c_MOST_COUNTED) (nomark _)) (pss_cons (ps_fld (pv 0) (pe_op op_fdivB (pe_op op_add (pe_fld (pv 0) rfl) pe_int) pe_int) rfl) (pss_one (ps_fld (pv 0) (pe_op op_fdivB (pe_op op_add (pe_fld (pv 0) rfl) pe_int) pe_int) rfl))) pss_nil)))), ?_⟩
      try dsimp only [cxOf]
      refine i_start (σ' := [some _, some _]) rfl ?_
      walk_at "rd"
      refine ⟨x, nm, rfl, ty, fun hx => ?_, k2⟩
      obtain ⟨b, rfl, b0, b1⟩ := of_bit hx
      have k := k1 b rfl b0 b1
      unfold Slt.see at k
      dsimp only at k
      walk_at "rd"
      refine iteD (fun hb => ?_) (fun hb => ?_)
      · rw [if_pos hb] at k
        unfold evSee at k
        walk_at "rd"
        refine iteD (fun hz => ?_) (fun hz => ?_)
        · rw [if_pos hz] at k
          walk_at "rd"
          exact k _ upd_same ((But.upd.trans But.upd).trans But.upd)
        · rw [if_neg hz] at k
          walk_at "rd"
          exact k _ upd_same But.upd
      · rw [if_neg hb] at k
        unfold evSee at k
        walk_at "rd"
        refine iteD (fun hz => ?_) (fun hz => ?_)
        · rw [if_pos hz] at k
          walk_at "rd"
          exact k _ upd_same ((But.upd.trans But.upd).trans But.upd)
        · rw [if_neg hz] at k
          walk_at "rd"
          exact k _ upd_same But.upd
    | qk _ => exact hg.elim
    | rn _ _ => exact hg.elim
theorem sc_Quick___init__ : FnScope ["self"] ["self"] (defScope s_Quick___init__) := ⟨rfl, rfl, rfl, by decide +kernel, rfl, by decide +kernel, by decide +kernel⟩
theorem ok_Quick___init__ (T : Txt K mg a) : FnOk P w K mg base CX0 1 a.f_Quick___init__ a.d_Quick___init__ ["self"] (sp_sinit a.C_Quick (F_Quick (.int 8388608))) := by
  refine T.F_Quick___init__.ok sc_Quick___init__ (fun vs H Q E h => ?_) (fun cdv A outer s H vs Q E hr h => ?_)
  · obtain ⟨p, dx, rfl, _⟩ := h
    rfl
  · obtain ⟨p, dx, rfl, hp, k⟩ := h
    refine ⟨_, (pss_one (ps_fld (pv 0) (pe_op op_fdivB (pe_gint rfl T.c_ONE) pe_int) rfl)), ?_⟩
    try dsimp only [cxOf]
    refine i_start (σ' := [some _]) rfl ?_
    walk_at "rd"
    exact k _ upd_same But.upd
theorem sc_Quick_chance : FnScope ["self"] ["self"] (defScope s_Quick_chance) := ⟨rfl, rfl, rfl, by decide +kernel, rfl, by decide +kernel, by decide +kernel⟩
theorem ok_Quick_chance (T : Txt K mg a) : FnOk P w K mg base CX0 1 a.f_Quick_chance a.d_Quick_chance ["self"] (sp_schance (oS a) isQk) := by
  refine T.F_Quick_chance.ok sc_Quick_chance (fun vs H Q E h => ?_) (fun cdv A outer s H vs Q E hr h => ?_)
  · obtain ⟨p, dx, s, rfl, _⟩ := h
    rfl
  · obtain ⟨p, dx, s', rfl, hg, hs, hp, k⟩ := h
    cases s' with
    | qk h0 =>
      have hp : H p = some (.ins a.C_Quick dx (F_Quick (.int h0))) := hp
      refine ⟨_, (pss_one (ps_ret (pe_fld (pv 0) rfl))), ?_⟩
      try dsimp only [cxOf]
      refine i_start (σ' := [some _]) rfl ?_
      walk_at "rd"
      exact k
    | ev _ _ => exact hg.elim
    | rn _ _ => exact hg.elim
theorem sc_Quick_seen : FnScope ["self", "bit", "moved"] ["self", "bit"] (defScope s_Quick_seen) := ⟨rfl, rfl, rfl, by decide +kernel, rfl, by decide +kernel, by decide +kernel⟩
theorem ok_Quick_seen (T : Txt K mg a) : FnOk P w K mg base (CXe P w) 4 a.f_Quick_seen a.d_Quick_seen ["self", "bit"] (sp_sseen K (oS a) isQk a.C_NoBit) := by
  refine T.F_Quick_seen.okE sc_Quick_seen (fun vs H Q E h => ?_) (fun cdv A outer s H vs Q E hr h => ?_)
  · obtain ⟨p, dx, s, x, n, rfl, _⟩ := h
    rfl
  · obtain ⟨p, dx, s', x, nm, rfl, hg, hs, hp, ty, k1, k2⟩ := h
    cases s' with
    | qk h0 =>
      obtain ⟨h1, h2⟩ := hs
      have hp : H p = some (.ins a.C_Quick dx (F_Quick (.int h0))) := hp
      refine ⟨_, (pss_cons (ps_expr (pe_callE (ok_check_bit T) (hr.mono (by decide)) rfl T.m_check_bit T.F_check_bit.kp T.B_check_bit .nil catch_fn (pa_cons (pv 1) pa_nil (star_ok rfl)))) (pss_cons (ps_if (pt_cmpR op_eq (pv 1) pe_int (nomark _)) (pss_one (ps_set (i := 2) sc_Quick_seen.nd rfl (Or.inl rfl) (pe_op op_add (pe_fld (pv 0) rfl) (pe_op op_fdivB (pe_op op_sub (pe_gint rfl T.c_ONE) (pe_fld (pv 0) rfl)) pe_int)))) (pss_one (ps_set (i := 2) sc_Quick_seen.nd rfl (Or.inl rfl) (pe_op op_sub (pe_fld (pv 0) rfl) (pe_op op_fdivB (pe_fld (pv 0) rfl) pe_int))))) (pss_one (ps_fld (pv 0) (pe_callB (call_min2 rfl) rfl T.z_min (by decide +kernel) (pa_cons (pe_callB (call_max2 rfl) rfl T.z_max (by decide +kernel) (pa_cons (pv 2) (pa_cons (pe_gint rfl T.c_LEAST) pa_nil (star_ok rfl)) (star_ok rfl))) (pa_cons (pe_op op_sub (pe_gint rfl T.c_ONE) (pe_gint rfl T.c_LEAST)) pa_nil (star_ok rfl)) (star_ok rfl))) rfl)))), ?_⟩
      try dsimp only [cxOf]
      refine i_start (σ' := [some _, some _, none]) rfl ?_
      walk_at "rd"
      refine ⟨x, nm, rfl, ty, fun hx => ?_, k2⟩
      obtain ⟨b, rfl, b0, b1⟩ := of_bit hx
      have k := k1 b rfl b0 b1
      unfold Slt.see at k
      dsimp only at k
      walk_at "rd"
      refine iteD (fun hb => ?_) (fun hb => ?_)
      · rw [if_pos hb] at k
        walk_at "rd"
        refine ⟨_, _, rfl, ?_⟩
        walk_at "rd"
        refine ⟨_, _, rfl, ?_⟩
        walk_at "rd"
        exact k _ upd_same But.upd
      · rw [if_neg hb] at k
        walk_at "rd"
        refine ⟨_, _, rfl, ?_⟩
        walk_at "rd"
        refine ⟨_, _, rfl, ?_⟩
        walk_at "rd"
        exact k _ upd_same But.upd
    | ev _ _ => exact hg.elim
    | rn _ _ => exact hg.elim
theorem sc_Run___init__ : FnScope ["self"] ["self"] (defScope s_Run___init__) := ⟨rfl, rfl, rfl, by decide +kernel, rfl, by decide +kernel, by decide +kernel⟩
theorem ok_Run___init__ (T : Txt K mg a) : FnOk P w K mg base CX0 1 a.f_Run___init__ a.d_Run___init__ ["self"] (sp_sinit a.C_Run (F_Run (.int 1) (.int 0))) := by
  refine T.F_Run___init__.ok sc_Run___init__ (fun vs H Q E h => ?_) (fun cdv A outer s H vs Q E hr h => ?_)
  · obtain ⟨p, dx, rfl, _⟩ := h
    rfl
  · obtain ⟨p, dx, rfl, hp, k⟩ := h
    refine ⟨_, (pss_cons (ps_fld (pv 0) pe_int rfl) (pss_one (ps_fld (pv 0) pe_int rfl))), ?_⟩
    try dsimp only [cxOf]
    refine i_start (σ' := [some _]) rfl ?_
    walk_at "rd"
    exact k _ upd_same (But.upd.trans But.upd)
theorem sc_Run_chance : FnScope ["self", "given"] ["self"] (defScope s_Run_chance) := ⟨rfl, rfl, rfl, by decide +kernel, rfl, by decide +kernel, by decide +kernel⟩
theorem ok_Run_chance (T : Txt K mg a) : FnOk P w K mg base CX0 1 a.f_Run_chance a.d_Run_chance ["self"] (sp_schance (oS a) isRn) := by
  refine T.F_Run_chance.ok sc_Run_chance (fun vs H Q E h => ?_) (fun cdv A outer s H vs Q E hr h => ?_)
  · obtain ⟨p, dx, s, rfl, _⟩ := h
    rfl
  · obtain ⟨p, dx, s', rfl, hg, hs, hp, k⟩ := h
    cases s' with
    | rn l n =>
      obtain ⟨h1, h2, h3, h4⟩ := hs
      have hp : H p = some (.ins a.C_Run dx (F_Run (.int l) (.int n))) := hp
      refine ⟨_, (pss_cons (ps_set (i := 1) sc_Run_chance.nd rfl (Or.inl rfl) (pe_op op_fdivB (pe_op op_mul (pe_op op_add (pe_op op_mul pe_int (pe_fld (pv 0) rfl)) pe_int) (pe_gint rfl T.c_ONE)) (pe_op op_add (pe_op op_mul pe_int (pe_fld (pv 0) rfl)) pe_int))) (pss_one (ps_ret (pe_ifExp (pt_cmpR op_eq (pe_fld (pv 0) rfl) pe_int (nomark _)) (pv 1) (pe_op op_sub (pe_gint rfl T.c_ONE) (pv 1)))))), ?_⟩
      try dsimp only [cxOf]
      refine i_start (σ' := [some _, none]) rfl ?_
      walk_at "rd"
      have k : Q (.int (if l = 1 then rnGive n else 16777216 - rnGive n)) H := k
      refine iteD (fun hb => ?_) (fun hb => ?_)
      · rw [if_pos hb] at k
        walk_at "rd"
        exact k
      · rw [if_neg hb] at k
        walk_at "rd"
        exact k
    | ev _ _ => exact hg.elim
    | qk _ => exact hg.elim
theorem sc_Run_seen : FnScope ["self", "bit"] ["self", "bit"] (defScope s_Run_seen) := ⟨rfl, rfl, rfl, by decide +kernel, rfl, by decide +kernel, by decide +kernel⟩
theorem ok_Run_seen (T : Txt K mg a) : FnOk P w K mg base (CXe P w) 4 a.f_Run_seen a.d_Run_seen ["self", "bit"] (sp_sseen K (oS a) isRn a.C_NoBit) := by
  refine T.F_Run_seen.okE sc_Run_seen (fun vs H Q E h => ?_) (fun cdv A outer s H vs Q E hr h => ?_)
  · obtain ⟨p, dx, s, x, n, rfl, _⟩ := h
    rfl
  · obtain ⟨p, dx, s', x, nm, rfl, hg, hs, hp, ty, k1, k2⟩ := h
    cases s' with
    | rn l n =>
      obtain ⟨h1, h2, h3, h4⟩ := hs
      have hp : H p = some (.ins a.C_Run dx (F_Run (.int l) (.int n))) := hp
      refine ⟨_, (pss_cons (ps_expr (pe_callE (ok_check_bit T) (hr.mono (by decide)) rfl T.m_check_bit T.F_check_bit.kp T.B_check_bit .nil catch_fn (pa_cons (pv 1) pa_nil (star_ok rfl)))) (pss_one (ps_if (pt_cmpR op_eq (pv 1) (pe_fld (pv 0) rfl) (nomark _)) (pss_one (ps_fld (pv 0) (pe_callB (call_min2 rfl) rfl T.z_min (by decide +kernel) (pa_cons (pe_op op_add (pe_fld (pv 0) rfl) pe_int) (pa_cons (pe_gint rfl T.c_MOST_COUNTED) pa_nil (star_ok rfl)) (star_ok rfl))) rfl)) (pss_cons (ps_fld (pv 0) (pv 1) rfl) (pss_one (ps_fld (pv 0) pe_int rfl)))))), ?_⟩
      try dsimp only [cxOf]
      refine i_start (σ' := [some _, some _]) rfl ?_
      walk_at "rd"
      refine ⟨x, nm, rfl, ty, fun hx => ?_, k2⟩
      obtain ⟨b, rfl, b0, b1⟩ := of_bit hx
      have k := k1 b rfl b0 b1
      unfold Slt.see at k
      dsimp only at k
      walk_at "rd"
      refine iteD (fun hb => ?_) (fun hb => ?_)
      · rw [if_pos hb] at k
        walk_at "rd"
        refine ⟨_, _, rfl, ?_⟩
        walk_at "rd"
        exact k _ upd_same But.upd
      · rw [if_neg hb] at k
        walk_at "rd"
        exact k _ upd_same (But.upd.trans But.upd)
    | ev _ _ => exact hg.elim
    | qk _ => exact hg.elim
theorem sc_slot_of : FnScope ["kind"] ["kind"] (defScope s_slot_of) := ⟨rfl, rfl, rfl, by decide +kernel, rfl, by decide +kernel, by decide +kernel⟩
def sp_slot_of (a : Ads) : Sp := fun vs H Q _ => ∃ k : Fin 3, vs = [.str (kdS k)] ∧ ∀ p dx H', H p = none → H' p = some (oS a dx (kd0 k)) → Same H H' → Q (.ref p) H'
theorem ok_slot_of (T : Txt K mg a) : FnOk P w K mg base CX0 3 a.f_slot_of a.d_slot_of ["kind"] (sp_slot_of a) := by
  refine T.F_slot_of.ok sc_slot_of (fun vs H Q E h => ?_) (fun cdv A outer s H vs Q E hr h => ?_)
  · obtain ⟨k, rfl, _⟩ := h
    rfl
  · obtain ⟨kk, rfl, k⟩ := h
    refine ⟨_, (pss_cons (ps_if (pt_cmpR op_eq (pv 0) pe_str (nomark _)) (pss_one (ps_ret (pe_make0 T.k_Even (ok_Even___init__ T) (hr.mono (by decide)) rfl T.m_Even T.B_Even___init__ .nil pass0))) pss_nil) (pss_cons (ps_if (pt_cmpR op_eq (pv 0) pe_str (nomark _)) (pss_one (ps_ret (pe_make0 T.k_Quick (ok_Quick___init__ T) (hr.mono (by decide)) rfl T.m_Quick T.B_Quick___init__ .nil pass0))) pss_nil) (pss_cons (ps_if (pt_cmpR op_eq (pv 0) pe_str (nomark _)) (pss_one (ps_ret (pe_make0 T.k_Run (ok_Run___init__ T) (hr.mono (by decide)) rfl T.m_Run T.B_Run___init__ .nil pass0))) pss_nil) (pss_one ps_never)))), ?_⟩
    try dsimp only [cxOf]
    refine i_start (σ' := [some _]) rfl ?_
    walk_at "rd"
    refine ⟨rfl, ?_⟩
    match kk with
    | 0 =>
      refine ⟨_, rfl, iteDp rfl ?_⟩
      walk_at "rd"
      intro p dx np ndx ne
      refine ⟨p, dx, rfl, upd_same, fun H1 hp1 B1 => ⟨rfl, ?_⟩⟩
      exact k p dx H1 np hp1 fun b o e => B1 b o (by rw [upd_ne (ne_of_none e np), upd_ne (ne_of_none e ndx)]; exact e) (ne_of_none e np)
    | 1 =>
      refine ⟨_, rfl, iteDn (by intro z; injection z with z; revert z; decide +kernel) ?_⟩
      walk_at "rd"
      refine ⟨rfl, ?_⟩
      refine ⟨_, rfl, iteDp rfl ?_⟩
      walk_at "rd"
      intro p dx np ndx ne
      refine ⟨p, dx, rfl, upd_same, fun H1 hp1 B1 => ⟨rfl, ?_⟩⟩
      exact k p dx H1 np hp1 fun b o e => B1 b o (by rw [upd_ne (ne_of_none e np), upd_ne (ne_of_none e ndx)]; exact e) (ne_of_none e np)
    | 2 =>
      refine ⟨_, rfl, iteDn (by intro z; injection z with z; revert z; decide +kernel) ?_⟩
      walk_at "rd"
      refine ⟨rfl, ?_⟩
      refine ⟨_, rfl, iteDn (by intro z; injection z with z; revert z; decide +kernel) ?_⟩
      walk_at "rd"
      refine ⟨rfl, ?_⟩
      refine ⟨_, rfl, iteDp rfl ?_⟩
      walk_at "rd"
      intro p dx np ndx ne
      refine ⟨p, dx, rfl, upd_same, fun H1 hp1 B1 => ⟨rfl, ?_⟩⟩
      exact k p dx H1 np hp1 fun b o e => B1 b o (by rw [upd_ne (ne_of_none e np), upd_ne (ne_of_none e ndx)]; exact e) (ne_of_none e np)
theorem sc_sign_back : FnScope ["signs", "place"] ["signs", "place"] (defScope s_sign_back) := ⟨rfl, rfl, rfl, by decide +kernel, rfl, by decide +kernel, by decide +kernel⟩
def sp_sback (K : PySem.W.Frag) : Sp := fun vs H Q _ => ∃ (l : Addr) (sg : List Int) (p : Int), vs = [.ref l, .int p] ∧ SqL K H l (sg.map V.int) ∧ 1 ≤ p ∧ Q (.int (back sg p)) H
theorem ok_sign_back (T : Txt K mg a) : FnOk P w K mg base CX0 1 a.f_sign_back a.d_sign_back ["signs", "place"] (sp_sback K) := by
  refine T.F_sign_back.ok sc_sign_back (fun vs H Q E h => ?_) (fun cdv A outer s H vs Q E hr h => ?_)
  · obtain ⟨l, sg, p, rfl, _⟩ := h
    rfl
  · obtain ⟨l, sg, p, rfl, hl, hp, k⟩ := h
    refine ⟨_, (pss_one (ps_ret (pe_ifExp (pt_cmpR op_le (pv 1) (pe_callB call_len_seq rfl T.z_len (by decide +kernel) (pa_cons (pv 0) pa_nil (star_ok rfl))) (nomark _)) (pe_ix ix_list (pv 0) (pe_un un_neg (pv 1)) (fun _ _ => rfl)) (pe_gint rfl T.c_NO_SIGN)))), ?_⟩
    try dsimp only [cxOf]
    refine i_start (σ' := [some _, some _]) rfl ?_
    walk_at "rd"
    refine i_len hl ?_
    rw [List.length_map]
    walk_at "rd"
    unfold back at k
    refine iteD (fun hb => ?_) (fun hb => ?_)
    · rw [if_pos hb] at k
      obtain ⟨c, hc, _⟩ := atI_back hp hb
      rw [hc] at k
      walk_at "rd"
      exact i_ixL hl (by rw [map_atI, hc]; rfl) k
    · rw [if_neg hb] at k
      walk_at "rd"
      exact k
theorem sc_context_of : FnScope ["look", "signs", "node"] ["look", "signs", "node"] (defScope s_context_of) := ⟨rfl, rfl, rfl, by decide +kernel, rfl, by decide +kernel, by decide +kernel⟩
/-- the kind and the places of a look that lies at k -/
def LookAt (K : PySem.W.Frag) (H : Hp) (k : Addr) (x : V) (ps : List Int) : Prop := ∃ t, SqT K H k [x, .ref t] ∧ SqT K H t (ps.map V.int) ∧ (∀ p ∈ ps, 1 ≤ p ∧ p ≤ 8) ∧ ps.length ≤ 4
theorem LookAt.same {K : PySem.W.Frag} {H H' : Hp} {k : Addr} {x : V} {ps : List Int} (S : Same H H') (h : LookAt K H k x ps) : LookAt K H' k x ps := by
  obtain ⟨t, h1, h2, h3, h4⟩ := h
  exact ⟨t, S.tup h1, S.tup h2, h3, h4⟩
def ctx (ps sg : List Int) (nd : Int) : List Int := ps.map (back sg) ++ [nd]
def bkV (sg : List Int) : V → V
  | .int p => .int (back sg p)
  | _ => .non
theorem bkV_map (sg ps : List Int) : (ps.map V.int).map (bkV sg) = (ps.map (back sg)).map V.int := by
  rw [List.map_map, List.map_map]
  rfl
def sp_context (K : PySem.W.Frag) : Sp := fun vs H Q _ => ∃ (k l : Addr) (x : V) (ps sg : List Int) (nd : Int), vs = [.ref k, .ref l, .int nd] ∧ LookAt K H k x ps ∧ SqL K H l (sg.map V.int) ∧
  ∀ r H', H r = none → H' r = some (.tup ((ctx ps sg nd).map V.int)) → Same H H' → Q (.ref r) H'
theorem ok_context_of (T : Txt K mg a) : FnOk P w K mg base CX0 2 a.f_context_of a.d_context_of ["look", "signs", "node"] (sp_context K) := by
  refine T.F_context_of.ok sc_context_of (fun vs H Q E h => ?_) (fun cdv A outer s H vs Q E hr h => ?_)
  · obtain ⟨k, l, x, ps, sg, nd, rfl, _⟩ := h
    rfl
  · obtain ⟨ka, l, x, ps, sg, nd, rfl, ⟨t, hk, ht, hps, hpl⟩, hl, k⟩ := h
    refine ⟨_, (pss_one (ps_ret (pe_callTy call_tuple_of rfl T.z_tuple (by decide +kernel) (pa_cons (pe_op op_cat (pe_compF (js := [1]) (ys := ["signs"]) rfl (pi_tup (pe_ix ix_tup (pv 0) pe_int (fun _ _ => rfl))) (fun C s2 H2 fp => (pe_call (ok_sign_back T) (hr.mono (by decide)) rfl T.m_sign_back T.F_sign_back.kp T.B_sign_back .nil pass0 (pa_cons (pv 1) (pa_cons (pv 0) pa_nil (star_ok rfl)) (star_ok rfl)))) rfl rfl (hyc := (all_cons rfl all_nil)) (hrel := (all_cons rfl all_nil))) (pe_lst (pa_cons (pv 2) pa_nil (star_ok rfl)))) pa_nil (star_ok rfl))))), ?_⟩
    try dsimp only [cxOf]
    refine i_start (σ' := [some _, some _, some _]) rfl ?_
    walk_at "rd"
    refine i_ixT hk (atI_nat (j := 1) rfl) ?_
    refine ⟨t, rfl, ⟨_, ht⟩, fun D hD => ?_⟩
    have hpz : (ps.map V.int).length < sizeLine := line_lt (by rw [List.length_map]; omega)
    refine compF_tupM (xs := ps.map V.int) (bkV sg) ht hD (fun i y H2 hy S2 hD2 => ?_) (fun H2 S2 hD2 => ?_)
    · obtain ⟨p, rfl, hpm, _, _⟩ := getInt hy
      walk_at "rd"
      refine ⟨l, sg, p, rfl, S2.seq hl, (hps p hpm).1, ?_⟩
      exact Mp.done hD hpz hy S2 hD2 rfl
    · rw [bkV_map] at hD2
      walk_at "rd"
      refine ⟨by walk_at "len", fun n hn => ?_⟩
      with_reducible first | refine new_obj2 hn fun H3 S3 hn3 => ?_ | refine new_obj hn fun H3 S3 hn3 => ?_
      refine ⟨D, n, _, _, rfl, rfl, S3 _ _ hD2, hn3, line_le (by rw [List.length_map, List.length_map]; show _ + 1 ≤ _; omega), fun c hc => ?_⟩
      with_reducible first | refine new_obj2 hc fun H4 S4 hc4 => ?_ | refine new_obj hc fun H4 S4 hc4 => ?_
      refine ⟨c, _, rfl, .inl ⟨SqL.of hc4, fun r hr0 => ?_⟩⟩
      have S := S2.trans (S3.trans S4)
      refine k r _ (S.free hr0) (upd_same.trans ?_) (S.trans (same_upd hr0))
      unfold ctx
      rw [List.map_append]
      rfl
theorem sc_Book___init__ : FnScope ["self", "look"] ["self", "look"] (defScope s_Book___init__) := ⟨rfl, rfl, rfl, by decide +kernel, rfl, by decide +kernel, by decide +kernel⟩
def sp_bkinit (a : Ads) : Sp := fun vs H Q _ => ∃ (p dx lk : Addr) (kd : Fin 3), vs = [.ref p, .ref lk] ∧ H p = some (.ins a.C_Book dx []) ∧ ∀ d H', H d = none → BkAt a H' p dx lk d kd (fun _ => none) (fun b => b = d) 0 → But p H H' → Q .non H'
theorem ok_Book___init__ (T : Txt K mg a) : FnOk P w K mg base CX0 1 a.f_Book___init__ a.d_Book___init__ ["self", "look"] (sp_bkinit a) := by
  refine T.F_Book___init__.ok sc_Book___init__ (fun vs H Q E h => ?_) (fun cdv A outer s H vs Q E hr h => ?_)
  · obtain ⟨p, dx, lk, kd, rfl, _⟩ := h
    rfl
  · obtain ⟨p, dx, lk, kd, rfl, hp, k⟩ := h
    refine ⟨_, (pss_cons (ps_fld (pv 0) (pv 1) rfl) (pss_one (ps_fld (pv 0) pe_dnewT rfl))), ?_⟩
    try dsimp only [cxOf]
    refine i_start (σ' := [some _, some _]) rfl ?_
    walk_at "rd"
    intro d hd
    have hd0 : H d = none := by
      cases e : H d with
      | none => rfl
      | some o =>
        by_cases z : d = p
        · rw [z, upd_same] at hd; cases hd
        · rw [upd_ne z, e] at hd; cases hd
    have ndp : d ≠ p := fun z => by rw [z, hp] at hd0; cases hd0
    have hp2 := upd_new (o' := HO.dT []) hd (show upd H p (HO.ins a.C_Book dx ([("look", V.ref lk)] : List (Str × V))) p = some (HO.ins a.C_Book dx ([("look", V.ref lk)] : List (Str × V))) from upd_same)
    have hd2 : upd (upd H p (HO.ins a.C_Book dx ([("look", V.ref lk)] : List (Str × V)))) d (.dT []) d = some (.dT []) := upd_same
    have B2 : But p H (upd (upd H p (HO.ins a.C_Book dx ([("look", V.ref lk)] : List (Str × V)))) d (.dT [])) := fun b o e n => by rw [upd_ne (ne_of_none e hd0), upd_ne n]; exact e
    generalize upd (upd H p (HO.ins a.C_Book dx ([("look", V.ref lk)] : List (Str × V)))) d (.dT []) = H2 at hp2 hd2 B2 ⊢
    walk_at "rd"
    refine k d _ hd0 ⟨upd_same, fun b hb => ⟨HO.dT [], by cases hb; exact upd_oth ndp hd2, rfl⟩, fun z => ndp z.symm, rfl, [], fun _ => (0, 0), upd_oth ndp hd2, Nat.le_refl _, fun _ _ => rfl, fun _ _ z => (nomatch z), fun _ _ _ _ z => (nomatch z)⟩ (B2.trans But.upd)
theorem sc_Book_chance : FnScope ["self", "signs", "node", "slot"] ["self", "signs", "node"] (defScope s_Book_chance) := ⟨rfl, rfl, rfl, by decide +kernel, rfl, by decide +kernel, by decide +kernel⟩
def sp_bkchance (K : PySem.W.Frag) (a : Ads) : Sp := fun vs H Q _ => ∃ (p dx lk d sl : Addr) (kd : Fin 3) (f : List Int → Option Slt) (O : Addr → Prop) (m : Nat) (x : V) (ps sg : List Int) (nd : Int), vs = [.ref p, .ref sl, .int nd] ∧ BkAt a H p dx lk d kd f O m ∧ LookAt K H lk x ps ∧ SqL K H sl (sg.map V.int) ∧
  ∀ H', Same H H' → Q (.int (bkDue (f (ctx ps sg nd)))) H'
theorem ok_Book_chance (T : Txt K mg a) : FnOk P w K mg base CX0 3 a.f_Book_chance a.d_Book_chance ["self", "signs", "node"] (sp_bkchance K a) := by
  refine T.F_Book_chance.ok sc_Book_chance (fun vs H Q E h => ?_) (fun cdv A outer s H vs Q E hr h => ?_)
  · obtain ⟨p, dx, lk, d, sl, kd, f, O, m, x, ps, sg, nd, rfl, _⟩ := h
    rfl
  · obtain ⟨p, dx, lk, d, sl, kd, f, O, m, x, ps, sg, nd, rfl, hb, hl, hs, k⟩ := h
    have hme := hb.me
    obtain ⟨kvs, loc, h1, h2, h3, h4, h5⟩ := hb.tb
    refine ⟨_, (pss_cons (ps_set (i := 3) sc_Book_chance.nd rfl (Or.inl rfl) (pe_dget1 (hu_of hr) (pe_fld (pv 0) rfl) (pe_call (ok_context_of T) (hr.mono (by decide)) rfl T.m_context_of T.F_context_of.kp T.B_context_of .nil pass0 (pa_cons (pe_fld (pv 0) rfl) (pa_cons (pv 1) (pa_cons (pv 2) pa_nil (star_ok rfl)) (star_ok rfl)) (star_ok rfl))) ⟨rfl, rfl, rfl, rfl⟩)) (pss_one (ps_ret (pe_ifExp (pt_cmpR op_isN (pv 3) pe_non (nomark _)) (pe_meth0 (pe_makeO T.k_Slot rfl T.m_Slot) T.cl_Slot T.M_Slot_chance (ok_Slot_chance T) (hr.mono (by decide)) T.B_Slot_chance .nil pass0) (pe_alt (pe_meth0 (pv 3) T.cl_Even T.M_Even_chance (ok_Even_chance T) (hr.mono (by decide)) T.B_Even_chance .nil pass0) (pe_alt (pe_meth0 (pv 3) T.cl_Quick T.M_Quick_chance (ok_Quick_chance T) (hr.mono (by decide)) T.B_Quick_chance .nil pass0) (pe_meth0 (pv 3) T.cl_Run T.M_Run_chance (ok_Run_chance T) (hr.mono (by decide)) T.B_Run_chance .nil pass0))))))), ?_⟩
    try dsimp only [cxOf]
    refine i_start (σ' := [some _, some _, some _, none]) rfl ?_
    walk_at "rd"
    refine ⟨d, rfl, .inr ⟨kvs, .inl h1⟩, ?_⟩
    walk_at "rd"
    refine ⟨lk, sl, x, ps, sg, nd, rfl, hl, hs, fun r H1 hr0 hr1 S1 => ?_⟩
    have hr1' : H1 r = some (.tup ((kI (ctx ps sg nd)).map kV)) := by rw [kI_map]; exact hr1
    generalize ctx ps sg nd = key at hr1' k
    refine ⟨_, DGet.t (S1 _ _ h1) hr1', ?_⟩
    cases hf : f key with
    | none =>
      rw [h3 key hf]
      rw [hf] at k
      walk_at "rd"
      refine iteDe ?_
      walk_at "rd"
      intro q dq nq ndq neq
      have S2 : Same H1 (upd (upd H1 dq (.own q)) q (.ins a.C_Slot dq [])) := fun b o e => by rw [upd_ne (ne_of_none e nq), upd_ne (ne_of_none e ndq)]; exact e
      have hq2 : upd (upd H1 dq (.own q)) q (.ins a.C_Slot dq []) q = some (.ins a.C_Slot dq F_Slot) := upd_same
      generalize upd (upd H1 dq (.own q)) q (.ins a.C_Slot dq []) = H2 at S2 hq2 ⊢
      walk_at "rd"
      refine ⟨q, dq, rfl, hq2, ?_⟩
      exact k _ (S1.trans S2)
    | some s' =>
      obtain ⟨q1, q2, q3, q4, q5⟩ := h4 key s' hf
      rw [q1]
      rw [hf] at k
      walk_at "rd"
      refine iteDn (fun z => nomatch z) ?_
      walk_at "rd"
      refine i_chance3 (fun Q' h => i_var rfl h) (S1 _ _ q2) q3 ?_
      exact k _ S1
theorem sc_Book_slot_at : FnScope ["self", "signs", "node", "context"] ["self", "signs", "node"] (defScope s_Book_slot_at) := ⟨rfl, rfl, rfl, by decide +kernel, rfl, by decide +kernel, by decide +kernel⟩
def sp_bkslot (K : PySem.W.Frag) (a : Ads) : Sp := fun vs H Q _ => ∃ (p dx lk d sl : Addr) (kd : Fin 3) (f : List Int → Option Slt) (O : Addr → Prop) (m : Nat) (ps sg : List Int) (nd : Int), vs = [.ref p, .ref sl, .int nd] ∧ BkAt a H p dx lk d kd f O m ∧ m < 1000000 ∧ LookAt K H lk (.str (kdS kd)) ps ∧ SqL K H sl (sg.map V.int) ∧
  ∀ (q : Addr) (O' : Addr → Prop) (H' : Hp), BkAt a H' p dx lk d kd (updF f (ctx ps sg nd) ((f (ctx ps sg nd)).getD (kd0 kd))) O' (m + 1) → (∀ kvs, H' d = some (.dT kvs) → valV kvs (kI (ctx ps sg nd)) = some (.ref q)) → (∀ c, O' c → O c ∨ H c = none) → ButO O H H' → Q (.ref q) H'
theorem ok_Book_slot_at (T : Txt K mg a) : FnOk P w K mg base CX0 4 a.f_Book_slot_at a.d_Book_slot_at ["self", "signs", "node"] (sp_bkslot K a) := by
  refine T.F_Book_slot_at.ok sc_Book_slot_at (fun vs H Q E h => ?_) (fun cdv A outer s H vs Q E hr h => ?_)
  · obtain ⟨p, dx, lk, d, sl, kd, f, O, m, ps, sg, nd, rfl, _⟩ := h
    rfl
  · obtain ⟨p, dx, lk, d, sl, kd, f, O, m, ps, sg, nd, rfl, hb, hm, hl, hs, k⟩ := h
    have hme := hb.me
    refine ⟨_, (pss_cons (ps_set (i := 3) sc_Book_slot_at.nd rfl (Or.inl rfl) (pe_call (ok_context_of T) (hr.mono (by decide)) rfl T.m_context_of T.F_context_of.kp T.B_context_of .nil pass0 (pa_cons (pe_fld (pv 0) rfl) (pa_cons (pv 1) (pa_cons (pv 2) pa_nil (star_ok rfl)) (star_ok rfl)) (star_ok rfl)))) (pss_cons (ps_mid (ps_if (pt_cmp (pc_dnotin (hu_of hr) (pv 3) (pe_fld (pv 0) rfl))) (pss_one (ps_dput (hu_of hr) (pe_fld (pv 0) rfl) (pv 3) (pe_call (ok_slot_of T) (hr.mono (by decide)) rfl T.m_slot_of T.F_slot_of.kp T.B_slot_of .nil pass0 (pa_cons (pe_ix ix_tup (pe_fld (pv 0) rfl) pe_int (fun _ _ => rfl)) pa_nil (star_ok rfl))) rfl)) pss_nil)) (pss_one (ps_ret (pe_dget (hu_of hr) (pe_fld (pv 0) rfl) (pv 3) (fun _ _ => rfl)))))), ?_⟩
    try dsimp only [cxOf]
    refine i_start (σ' := [some _, some _, some _, none]) rfl ?_
    walk_at "rd"
    refine ⟨lk, sl, _, ps, sg, nd, rfl, hl, hs, fun r H1 hr0 hr1 S1 => ?_⟩
    have hr1' : H1 r = some (.tup ((kI (ctx ps sg nd)).map kV)) := by rw [kI_map]; exact hr1
    generalize ctx ps sg nd = key at hr1' k
    have hb1 := hb.same S1
    have hme1 := hb1.me
    walk_at "rd"
    refine i_mid (fun σ' H' => σ' = [some (.ref p), some (.ref sl), some (.int nd), some (.ref r)] ∧ ∃ O', BkAt a H' p dx lk d kd (updF f key ((f key).getD (kd0 kd))) O' (m + 1) ∧ (∀ c, O' c → O c ∨ H c = none) ∧ ButO O H H' ∧ H' r = some (.tup ((kI key).map kV))) ?_ ?_
    · obtain ⟨kvs, loc, h1, h2, h3, h4, h5⟩ := hb1.tb
      walk_at "rd"
      refine ⟨d, _, rfl, DGet.t h1 hr1', ?_⟩
      cases hf : f key with
      | none =>
        rw [h3 key hf]
        walk_at "rd"
        refine iteT ?_
        walk_at "rd"
        obtain ⟨t, ht1, ht2, _, _⟩ := hl
        refine i_ixT (S1.tup ht1) (atI_nat (j := 0) rfl) ?_
        walk_at "rd"
        refine ⟨kd, rfl, fun q dq H2 hq0 hq2 S2 => ?_⟩
        walk_at "rd"
        have hme2 := S2 _ _ hme1
        walk_at "rd"
        refine ⟨d, _, rfl, DPut.t (S2 _ _ h1) (S2 _ _ hr1') (line_lt (by omega)), ?_⟩
        have S12 := S1.trans S2
        have nqd : q ≠ d := fun z => by rw [z, h1] at hq0; cases hq0
        have ndp : p ≠ d := fun z => hb1.np (z ▸ hb1.dO)
        walk_at "rd"
        refine ⟨rfl, fun c => O c ∨ c = q, ⟨upd_oth ndp hme2, fun c hc => ?_, fun z => ?_, .inl hb1.dO, putK kvs (kI key) (.ref q), fun j => if j = key then (q, dq) else loc j, upd_same, ?_, fun j hj => ?_, fun j s' hj => ?_, fun j1 j2 s1 s2 e1 e2 el => ?_⟩, fun c hc => ?_, fun c o e no => ?_, upd_oth (ne_of (S2 _ _ hr1') (S2 _ _ h1) (by intro z; cases z)) (S2 _ _ hr1')⟩
        · rcases hc with hc | rfl
          · obtain ⟨o, ho, hi⟩ := hb1.own c hc
            by_cases z : c = d
            · rw [z]
              exact ⟨_, upd_same, rfl⟩
            · exact ⟨o, upd_oth z (S2 _ _ ho), hi⟩
          · obtain ⟨C, fs, eo⟩ := oS_ins a dq (kd0 kd)
            exact ⟨_, upd_oth nqd hq2, by rw [eo]; rfl⟩
        · rcases z with z | z
          · exact hb1.np z
          · rw [z] at hme1
            rw [hme1] at hq0
            cases hq0
        · rw [putK_new _ (h3 key hf), List.length_append]
          show _ + 1 ≤ m + 1
          omega
        · unfold updF at hj
          split at hj
          · cases hj
          · rename_i hne
            rw [valV_put, if_neg fun z => hne (kI_inj z)]
            exact h3 j hj
        · unfold updF at hj
          split at hj
          · rename_i he
            subst he
            cases hj
            dsimp only
            rw [if_pos rfl, valV_put, if_pos rfl]
            exact ⟨rfl, upd_oth nqd hq2, kd0_ok kd, kind_kd0 kd, .inr rfl⟩
          · rename_i hne
            obtain ⟨q1, q2, q3, q4, q5⟩ := h4 j s' hj
            dsimp only
            rw [if_neg hne, valV_put, if_neg fun z => hne (kI_inj z)]
            have nd2 : (loc j).1 ≠ d := by
              obtain ⟨C, fs, eo⟩ := oS_ins a (loc j).2 s'
              rw [eo] at q2
              exact ne_of q2 h1 (by intro z; cases z)
            exact ⟨q1, upd_oth nd2 (S2 _ _ q2), q3, q4, .inl q5⟩
        · unfold updF at e1 e2
          dsimp only at el
          by_cases z1 : j1 = key
          · by_cases z2 : j2 = key
            · rw [z1, z2]
            · rw [if_neg z2] at e2
              rw [if_pos z1, if_neg z2] at el
              obtain ⟨_, q2, _⟩ := h4 j2 s2 e2
              have el : q = (loc j2).1 := el
              rw [← el, hq0] at q2
              cases q2
          · rw [if_neg z1] at e1
            by_cases z2 : j2 = key
            · rw [if_neg z1, if_pos z2] at el
              obtain ⟨_, q2, _⟩ := h4 j1 s1 e1
              have el : (loc j1).1 = q := el
              rw [el, hq0] at q2
              cases q2
            · rw [if_neg z2] at e2
              rw [if_neg z1, if_neg z2] at el
              exact h5 j1 j2 s1 s2 e1 e2 el
        · rcases hc with hc | rfl
          · exact .inl hc
          · exact .inr (S1.free hq0)
        · exact upd_oth (fun z => no (z ▸ hb1.dO)) (S12 _ _ e)
      | some s' =>
        obtain ⟨q1, q2, q3, q4, q5⟩ := h4 key s' hf
        rw [q1]
        walk_at "rd"
        refine ⟨rfl, O, ?_, fun c hc => .inl hc, fun c o e _ => S1 _ _ e, hr1'⟩
        have ef : updF f key ((some s').getD (kd0 kd)) = f := by
          funext j
          unfold updF
          split
          · rename_i z
            rw [z, hf]
            rfl
          · rfl
        rw [ef]
        exact ⟨hb1.me, hb1.own, hb1.np, hb1.dO, kvs, loc, h1, Nat.le_succ_of_le h2, h3, h4, h5⟩
    · rintro σ' H2 ⟨rfl, O', hb2, hO, B2, hr2⟩
      have hme2 := hb2.me
      obtain ⟨kvs, loc, h1, h2, h3, h4, h5⟩ := id hb2.tb
      have hk0 : updF f key ((f key).getD (kd0 kd)) key = some ((f key).getD (kd0 kd)) := by unfold updF; rw [if_pos rfl]
      obtain ⟨q1, q2, q3, q4, q5⟩ := h4 key _ hk0
      walk_at "rd"
      refine ⟨d, _, rfl, by rw [← q1]; exact DGet.t h1 hr2, ?_⟩
      exact k (loc key).1 O' H2 hb2 (fun kvs' e => by rw [h1] at e; cases e; exact q1) hO B2
theorem sc_Book_seen : FnScope ["self", "signs", "node", "bit"] ["self", "signs", "node", "bit"] (defScope s_Book_seen) := ⟨rfl, rfl, rfl, by decide +kernel, rfl, by decide +kernel, by decide +kernel⟩
def sp_bkseen (K : PySem.W.Frag) (a : Ads) : Sp := fun vs H Q E => ∃ (p dx lk d sl : Addr) (kd : Fin 3) (f : List Int → Option Slt) (O : Addr → Prop) (m : Nat) (ps sg : List Int) (nd : Int) (x : V) (n : String), vs = [.ref p, .ref sl, .int nd, x] ∧ BkAt a H p dx lk d kd f O m ∧ m < 1000000 ∧ LookAt K H lk (.str (kdS kd)) ps ∧ SqL K H sl (sg.map V.int) ∧ TyOf K H x (.type n) ∧
  (bitV x = false → E (.ref a.C_NoBit) none H) ∧
  ∀ b : Int, x = .int b → 0 ≤ b → b ≤ 1 → ∀ (O' : Addr → Prop) (H' : Hp), BkAt a H' p dx lk d kd (updF f (ctx ps sg nd) (((f (ctx ps sg nd)).getD (kd0 kd)).see b)) O' (m + 1) → (∀ c, O' c → O c ∨ H c = none) → ButO O H H' → Q .non H'
theorem ok_Book_seen (T : Txt K mg a) : FnOk P w K mg base (CXe P w) 5 a.f_Book_seen a.d_Book_seen ["self", "signs", "node", "bit"] (sp_bkseen K a) := by
  refine T.F_Book_seen.okE sc_Book_seen (fun vs H Q E h => ?_) (fun cdv A outer s H vs Q E hr h => ?_)
  · obtain ⟨p, dx, lk, d, sl, kd, f, O, m, ps, sg, nd, x, n, rfl, _⟩ := h
    rfl
  · obtain ⟨p, dx, lk, d, sl, kd, f, O, m, ps, sg, nd, x, n, rfl, hb, hm, hl, hs, ty, k1, k2⟩ := h
    have hme := hb.me
    refine ⟨_, (pss_cons (ps_expr (pe_callE (ok_check_bit T) (hr.mono (by decide)) rfl T.m_check_bit T.F_check_bit.kp T.B_check_bit .nil catch_fn (pa_cons (pv 3) pa_nil (star_ok rfl)))) (pss_one (ps_expr (pe_alt (pe_methE (pe_meth (pv 0) T.cl_Book T.M_Book_slot_at (ok_Book_slot_at T) (hr.mono (by decide)) T.B_Book_slot_at .nil pass0 (pa_cons (pv 1) (pa_cons (pv 2) pa_nil (star_ok rfl)) (star_ok rfl))) T.cl_Even T.M_Even_seen (ok_Even_seen T) (hr.mono (by decide)) T.B_Even_seen .nil catch_fn (pa_cons (pv 3) pa_nil (star_ok rfl))) (pe_alt (pe_methE (pe_meth (pv 0) T.cl_Book T.M_Book_slot_at (ok_Book_slot_at T) (hr.mono (by decide)) T.B_Book_slot_at .nil pass0 (pa_cons (pv 1) (pa_cons (pv 2) pa_nil (star_ok rfl)) (star_ok rfl))) T.cl_Quick T.M_Quick_seen (ok_Quick_seen T) (hr.mono (by decide)) T.B_Quick_seen .nil catch_fn (pa_cons (pv 3) pa_nil (star_ok rfl))) (pe_methE (pe_meth (pv 0) T.cl_Book T.M_Book_slot_at (ok_Book_slot_at T) (hr.mono (by decide)) T.B_Book_slot_at .nil pass0 (pa_cons (pv 1) (pa_cons (pv 2) pa_nil (star_ok rfl)) (star_ok rfl))) T.cl_Run T.M_Run_seen (ok_Run_seen T) (hr.mono (by decide)) T.B_Run_seen .nil catch_fn (pa_cons (pv 3) pa_nil (star_ok rfl)))))))), ?_⟩
    try dsimp only [cxOf]
    refine i_start (σ' := [some _, some _, some _, some _]) rfl ?_
    walk_at "rd"
    refine ⟨x, n, rfl, ty, fun hx => ?_, k1⟩
    obtain ⟨b, rfl, b0, b1⟩ := of_bit hx
    have k := k2 b rfl b0 b1
    walk_at "rd"
    refine i_seen3K (kd := kd) (n := "int") (x := .int b) (R := fun q dq s H2 => ∃ O', BkAt a H2 p dx lk d kd (updF f (ctx ps sg nd) ((f (ctx ps sg nd)).getD (kd0 kd))) O' (m + 1) ∧ (∀ kvs, H2 d = some (.dT kvs) → valV kvs (kI (ctx ps sg nd)) = some (.ref q)) ∧ (∀ c, O' c → O c ∨ H c = none) ∧ ButO O H H2 ∧ s = (f (ctx ps sg nd)).getD (kd0 kd)) (fun Q' h => ?_) (fun H2 Q' h => ?_) (fun q dq s H2 hq ok r => ⟨.int b, fun b' hbb _ _ H3 hp3 B3 => ?_⟩) hx
    · walk_at "rd"
      refine ⟨p, dx, lk, d, sl, kd, f, O, m, ps, sg, nd, rfl, hb, hm, hl, hs, fun q O' H2 hb2 hv hO B2 => ?_⟩
      obtain ⟨kvs, loc, h1, h2, h3, h4, h5⟩ := id hb2.tb
      have hk0 : updF f (ctx ps sg nd) ((f (ctx ps sg nd)).getD (kd0 kd)) (ctx ps sg nd) = some ((f (ctx ps sg nd)).getD (kd0 kd)) := by unfold updF; rw [if_pos rfl]
      obtain ⟨q1, q2, q3, q4, q5⟩ := h4 _ _ hk0
      have eq := hv kvs h1
      rw [q1] at eq
      injection eq with eq
      injection eq with eq
      subst eq
      exact h _ _ _ _ q2 q3 q4 ⟨O', hb2, hv, hO, B2, rfl⟩
    · walk_at "rd"
      exact h
    · obtain rfl : b = b' := V.int.inj hbb
      obtain ⟨O', hb2, hv, hO, B2, hs0⟩ := r
      generalize ctx ps sg nd = key at hb2 hv hs0 k
      rw [← hs0] at hb2 k
      have hme2 := hb2.me
      obtain ⟨kvs, loc, h1, h2, h3, h4, h5⟩ := hb2.tb
      have hk0 : updF f key s key = some s := by unfold updF; rw [if_pos rfl]
      obtain ⟨q1, q2, q3, q4, q5⟩ := h4 key s hk0
      have eq := hv kvs h1
      rw [q1] at eq
      injection eq with eq
      injection eq with eq
      subst eq
      have edq : dq = (loc key).2 := by
        rw [q2] at hq
        cases s <;> (injection hq with hq; injection hq with _ e; exact e.symm)
      subst edq
      clear hs0 hq
      walk_at "rd"
      have eu : updF f key (s.see b) = updF (updF f key s) key (s.see b) := by
        funext j
        unfold updF
        by_cases z : j = key
        · rw [if_pos z, if_pos z]
        · rw [if_neg z, if_neg z, if_neg z]
      have npl : p ≠ (loc key).1 := fun z => hb2.np (z ▸ q5)
      have ndl : d ≠ (loc key).1 := fun z => by
        obtain ⟨C, fs, eo⟩ := oS_ins a (loc key).2 s
        rw [eo, ← z, h1] at q2
        cases q2
      refine k O' H3 ⟨B3 _ _ hme2 npl, fun c hc => ?_, hb2.np, hb2.dO, kvs, loc, B3 _ _ h1 ndl, h2, fun j hj => ?_, fun j s' hj => ?_, fun j1 j2 s1 s2 e1 e2 el => ?_⟩ hO fun c o e no => ?_
      · obtain ⟨o, ho, hi⟩ := hb2.own c hc
        by_cases z : c = (loc key).1
        · rw [z]
          obtain ⟨C, fs, eo⟩ := oS_ins a (loc key).2 (s.see b)
          exact ⟨_, hp3, by rw [eo]; rfl⟩
        · exact ⟨o, B3 _ _ ho z, hi⟩
      · rw [eu] at hj
        refine h3 j ?_
        unfold updF at hj ⊢
        split at hj
        · cases hj
        · rename_i z
          rw [if_neg z]
          exact hj
      · by_cases z : j = key
        · subst z
          rw [eu] at hj
          unfold updF at hj
          rw [if_pos rfl] at hj
          cases hj
          exact ⟨q1, hp3, Slt.see_ok q3 b0 b1, (kind_see s b).trans q4, q5⟩
        · have hj' : updF f key s j = some s' := by
            unfold updF at hj ⊢
            rw [if_neg z] at hj ⊢
            exact hj
          obtain ⟨p1, p2, p3, p4, p5⟩ := h4 j s' hj'
          exact ⟨p1, B3 _ _ p2 (fun w => z (h5 j key s' s hj' hk0 w)), p3, p4, p5⟩
      · have some_of : ∀ j s', updF f key (s.see b) j = some s' → ∃ t, updF f key s j = some t := fun j s' h => by
          unfold updF at h ⊢
          by_cases z : j = key
          · exact ⟨s, by rw [if_pos z]⟩
          · rw [if_neg z] at h ⊢
            exact ⟨s', h⟩
        obtain ⟨t1, f1⟩ := some_of j1 s1 e1
        obtain ⟨t2, f2⟩ := some_of j2 s2 e2
        exact h5 j1 j2 t1 t2 f1 f2 el
      · have hO2 : c ≠ (loc key).1 := fun z => by
          rcases hO (loc key).1 q5 with w | w
          · exact no (z ▸ w)
          · rw [z, w] at e
            cases e
        exact B3 _ _ (B2 c o e no) hO2
theorem sc__law_cell_at : FnScope ["_law_script", "_law_k"] ["_law_script", "_law_k"] (defScope s__law_cell_at) := ⟨rfl, rfl, rfl, by decide +kernel, rfl, by decide +kernel, by decide +kernel⟩
def sp_cell_at (K : PySem.W.Frag) : Sp := fun vs H Q _ => ∃ (l : Addr) (ns : List Int) (j : Nat), vs = [.ref l, .int j] ∧ SqL K H l (ns.map V.int) ∧ ∀ n : Int, Q (.int n) H
theorem ok__law_cell_at (T : Txt K mg a) : FnOk P w K mg base CX0 1 a.f__law_cell_at a.d__law_cell_at ["_law_script", "_law_k"] (sp_cell_at K) := by
  refine T.F__law_cell_at.ok sc__law_cell_at (fun vs H Q E h => ?_) (fun cdv A outer s H vs Q E hr h => ?_)
  · obtain ⟨l, ns, j, rfl, _⟩ := h
    rfl
  · obtain ⟨l, ns, j, rfl, hl, k⟩ := h
    refine ⟨_, (pss_cons (ps_if (pt_cmpR op_lt (pv 1) (pe_callB call_len_seq rfl T.z_len (by decide +kernel) (pa_cons (pv 0) pa_nil (star_ok rfl))) (nomark _)) (pss_one (ps_ret (pe_ix ix_list (pv 0) (pv 1) (fun _ _ => rfl)))) pss_nil) (pss_one (ps_ret pe_int))), ?_⟩
    try dsimp only [cxOf]
    refine i_start (σ' := [some _, some _]) rfl ?_
    walk_at "rd"
    refine i_len hl ?_
    rw [List.length_map]
    walk_at "rd"
    refine iteD (fun hb => ?_) (fun hb => ?_)
    · have hj : j < ns.length := by omega
      walk_at "rd"
      refine i_ixL (v := V.int ns[j]) hl (atI_nat (by rw [List.getElem?_map, List.getElem?_eq_getElem hj]; rfl)) ?_
      exact k _
    · walk_at "rd"
      exact k _
theorem sc__law_whole : FnScope ["_law_found"] ["_law_found"] (defScope s__law_whole) := ⟨rfl, rfl, rfl, by decide +kernel, rfl, by decide +kernel, by decide +kernel⟩
theorem ok__law_whole (T : Txt K mg a) : FnOk P w K mg base CX0 1 a.f__law_whole a.d__law_whole ["_law_found"] (sp_lwhole K) := by
  refine T.F__law_whole.ok sc__law_whole (fun vs H Q E h => ?_) (fun cdv A outer s H vs Q E hr h => ?_)
  · obtain ⟨x, n, rfl, _⟩ := h
    rfl
  · obtain ⟨x, n, rfl, ty, k⟩ := h
    refine ⟨_, (pss_one (ps_ret (pe_and (pe_callB call_isinst rfl T.z_isinstance (by decide +kernel) (pa_cons (pv 0) (pa_cons (pe_bty (T := "int") rfl T.z_int (by decide +kernel)) pa_nil (star_ok rfl)) (star_ok rfl))) (pe_one (pe_not (pe_callB call_isinst rfl T.z_isinstance (by decide +kernel) (pa_cons (pv 0) (pa_cons (pe_bty (T := "bool") rfl T.z_bool (by decide +kernel)) pa_nil (star_ok rfl)) (star_ok rfl)))))))), ?_⟩
    try dsimp only [cxOf]
    refine i_start (σ' := [some _]) rfl ?_
    walk_at "rd"
    refine i_isi ty (kit_int ty) ?_
    walk_at "rd"
    cases hx : isIntV x with
    | false =>
      have e : wholeV x = false := by
        cases x <;> first | rfl | cases hx
      rw [e] at k
      exact iteF k
    | true =>
      have e : wholeV x = !isBoolV x := by
        cases x <;> first | rfl | cases hx
      rw [e] at k
      refine iteT ?_
      walk_at "rd"
      refine i_isi ty (kit_bool ty) ?_
      walk_at "rd"
      exact k
theorem sc__law_places : FnScope ["_law_cell", "_law_places_here", "_law_place"] ["_law_cell"] (defScope s__law_places) := ⟨rfl, rfl, rfl, by decide +kernel, rfl, by decide +kernel, by decide +kernel⟩
def sp_lplaces (K : PySem.W.Frag) : Sp := fun vs H Q _ => ∃ (c : Int), vs = [.int c] ∧ ∀ r (ps : List Int) H', H r = none → H' r = some (.lst (ps.map V.int)) → (∀ p ∈ ps, 1 ≤ p ∧ p ≤ 8) → ps.length ≤ 4 → Same H H' → Q (.ref r) H'
theorem ok__law_places (T : Txt K mg a) : FnOk P w K mg base CX0 1 a.f__law_places a.d__law_places ["_law_cell"] (sp_lplaces K) := by
  refine T.F__law_places.ok sc__law_places (fun vs H Q E h => ?_) (fun cdv A outer s H vs Q E hr h => ?_)
  · obtain ⟨c, rfl, _⟩ := h
    rfl
  · obtain ⟨c, rfl, k⟩ := h
    refine ⟨_, (pss_cons (ps_set (i := 1) sc__law_places.nd rfl (Or.inl rfl) (pe_lst pa_nil)) (pss_cons (ps_for PassesOwn.never rfl (pi_range2 rfl T.z_range (pa_cons pe_int (pa_cons pe_int pa_nil (star_ok rfl)) (star_ok rfl))) (pg_name (i := 2) sc__law_places.nd rfl (Or.inl rfl)) (pss_cons (ps_if (PW.pt (pw_and (pt_cmpR op_eq (pe_op op_mod (pv 0) pe_int) pe_int (nomark _)) (pw_and1 (pt_cmpR op_lt (pe_callB call_len_seq rfl T.z_len (by decide +kernel) (pa_cons (pv 1) pa_nil (star_ok rfl))) pe_int (nomark _))))) (pss_one (ps_expr (pe_bm PySem.F.plainAttrs_list PySem.F.slot_list_append PySem.F.type_list_append mt_append (pv 1) (pa_cons (pv 2) pa_nil (star_ok rfl))))) pss_nil) (pss_one (ps_set (i := 0) sc__law_places.nd rfl (Or.inl rfl) (pe_op op_fdivB (pv 0) pe_int))))) (pss_one (ps_ret (pv 1))))), ?_⟩
    try dsimp only [cxOf]
    refine i_start (σ' := [some _, none, none]) rfl ?_
    walk_at "rd"
    refine ⟨by walk_at "len", fun q hq => ?_⟩
    with_reducible first | refine new_obj2 hq fun H1 S1 hq1 => ?_ | refine new_obj hq fun H1 S1 hq1 => ?_
    walk_at "rd"
    refine ⟨1, 9, rfl, ⟨by decide, by decide, by decide, by decide⟩, for_range (lo := 1) (n := 8) (fun i σ2 H2 => ∃ (c : Int) (ps : List Int) (v : Option V), σ2 = [some (.int c), some (.ref q), v] ∧ H2 q = some (.lst (ps.map V.int)) ∧ (∀ p ∈ ps, 1 ≤ p ∧ p ≤ i) ∧ ps.length ≤ 4 ∧ Same H H2)
      ⟨c, [], _, rfl, hq1, fun _ z => (nomatch z), by decide, S1⟩ ?_ ?_⟩
    · rintro i σ2 H2 hi ⟨c, ps, v, rfl, hq2, hp, hl, S2⟩
      walk_at "rd"
      have go : ∀ H3 (ps' : List Int), H3 q = some (.lst (ps'.map V.int)) → (∀ p ∈ ps', 1 ≤ p ∧ p ≤ ((i + 1 : Nat) : Int)) → ps'.length ≤ 4 → Same H H3 → ∃ (c' : Int) (ps : List Int) (v : Option V), [some (V.int (c / 2)), some (V.ref q), some (V.int (1 + (i : Int)))] = [some (.int c'), some (.ref q), v] ∧ H3 q = some (.lst (ps.map V.int)) ∧ (∀ p ∈ ps, 1 ≤ p ∧ p ≤ ((i + 1 : Nat) : Int)) ∧ ps.length ≤ 4 ∧ Same H H3 := fun H3 ps' h1 h2 h3 h5 => ⟨_, ps', _, rfl, h1, h2, h3, h5⟩
      refine iteD (fun hb => ?_) (fun hb => ?_)
      · walk_at "rd"
        refine i_len (SqL.of hq2) ?_
        rw [List.length_map]
        walk_at "rd"
        refine iteD (fun hc => ?_) (fun hc => ?_)
        · walk_at "rd"
          refine i_tyL hq2 ?_
          walk_at "rd"
          refine i_append hq2 (line_lt (by rw [List.length_map]; omega)) ?_
          walk_at "rd"
          refine go _ (ps ++ [1 + (i : Int)]) ?_ ?_ ?_ ?_
          · rw [upd_same, List.map_append]
            rfl
          · intro p hpm
            rcases List.mem_append.mp hpm with h | h
            · have := hp p h
              omega
            · rw [List.mem_singleton.mp h]
              omega
          · rw [List.length_append]
            show _ + 1 ≤ 4
            omega
          · intro b o e
            rw [upd_ne (ne_of_none e hq)]
            exact S2 b o e
        · walk_at "rd"
          exact go _ ps hq2 (fun p h => by have := hp p h; omega) hl S2
      · walk_at "rd"
        exact go _ ps hq2 (fun p h => by have := hp p h; omega) hl S2
    · rintro σ2 H2 ⟨c, ps, v, rfl, hq2, hp, hl, S2⟩
      walk_at "rd"
      exact k q ps _ hq hq2 hp hl S2
theorem sc__law_look : FnScope ["_law_cell", "_law_places_here"] ["_law_cell"] (defScope s__law_look) := ⟨rfl, rfl, rfl, by decide +kernel, rfl, by decide +kernel, by decide +kernel⟩
def sp_llook (K : PySem.W.Frag) : Sp := fun vs H Q _ => ∃ (c : Int), vs = [.int c] ∧ ∀ lk (kd : Fin 3) (ps : List Int) H', LookAt K H' lk (.str (kdS kd)) ps → Same H H' → Q (.ref lk) H'
theorem ok__law_look (T : Txt K mg a) : FnOk P w K mg base CX0 2 a.f__law_look a.d__law_look ["_law_cell"] (sp_llook K) := by
  refine T.F__law_look.ok sc__law_look (fun vs H Q E h => ?_) (fun cdv A outer s H vs Q E hr h => ?_)
  · obtain ⟨c, rfl, _⟩ := h
    rfl
  · obtain ⟨c, rfl, k⟩ := h
    refine ⟨_, (pss_cons (ps_set (i := 1) sc__law_look.nd rfl (Or.inl rfl) (pe_call (ok__law_places T) (hr.mono (by decide)) rfl T.m__law_places T.F__law_places.kp T.B__law_places .nil pass0 (pa_cons (pe_ix ix_list (pe_lst (pa_cons (pe_op op_mod (pe_op op_fdivB (pv 0) pe_int) pe_int) (pa_cons (pe_op op_mod (pe_op op_fdivB (pv 0) pe_int) pe_int) (pa_cons pe_int (pa_cons (pe_op op_add pe_int (pe_op op_mod (pe_op op_fdivB (pv 0) pe_int) pe_int)) pa_nil (star_ok rfl)) (star_ok rfl)) (star_ok rfl)) (star_ok rfl))) (pe_op op_mod (pe_op op_fdivB (pv 0) pe_int) pe_int) (fun _ _ => rfl)) pa_nil (star_ok rfl)))) (pss_one (ps_ret (pe_tup (pa_cons (pe_ix ix_list (pe_lst (pa_cons pe_str (pa_cons pe_str (pa_cons pe_str pa_nil (star_ok rfl)) (star_ok rfl)) (star_ok rfl))) (pe_op op_mod (pv 0) pe_int) (fun _ _ => rfl)) (pa_cons (pe_callTy call_tuple_of rfl T.z_tuple (by decide +kernel) (pa_cons (pv 1) pa_nil (star_ok rfl))) pa_nil (star_ok rfl)) (star_ok rfl)))))), ?_⟩
    try dsimp only [cxOf]
    refine i_start (σ' := [some _, none]) rfl ?_
    walk_at "rd"
    refine ⟨by walk_at "len", fun q hq => ?_⟩
    generalize c / 3 % 256 = c1
    generalize c / 3 % 2 = c2
    generalize c / 3 % 8 = c3
    with_reducible first | refine new_obj2 hq fun H1 S1 hq1 => ?_ | refine new_obj hq fun H1 S1 hq1 => ?_
    walk_at "rd"
    obtain ⟨v, hv, ha⟩ := atI_any (xs := [V.int c1, V.int c2, V.int 0, V.int (1 + c3)]) (i := c / 768 % 4) (Int.emod_nonneg _ (by decide)) (by show _ < (4 : Int); exact Int.emod_lt_of_pos _ (by decide))
    refine i_ixL (SqL.of hq1) ha ?_
    obtain ⟨z, rfl⟩ : ∃ z, v = V.int z := by
      simp only [List.mem_cons, List.not_mem_nil, or_false] at hv
      rcases hv with rfl | rfl | rfl | rfl <;> exact ⟨_, rfl⟩
    walk_at "rd"
    refine ⟨z, rfl, fun t ps H2 ht0 ht2 hp1 hp2 S2 => ?_⟩
    walk_at "rd"
    refine ⟨by walk_at "len", fun q2 hq2 => ?_⟩
    with_reducible first | refine new_obj2 hq2 fun H3 S3 hq3 => ?_ | refine new_obj hq2 fun H3 S3 hq3 => ?_
    walk_at "rd"
    obtain ⟨kk, hk⟩ : ∃ kk : Fin 3, atI [V.str "even", V.str "quick", V.str "run"] (c % 3) = some (V.str (kdS kk)) := by
      have h0 : 0 ≤ c % 3 := Int.emod_nonneg _ (by decide)
      have h1 : c % 3 < 3 := Int.emod_lt_of_pos _ (by decide)
      generalize c % 3 = z at h0 h1
      obtain rfl | rfl | rfl : z = 0 ∨ z = 1 ∨ z = 2 := by omega
      · exact ⟨0, rfl⟩
      · exact ⟨1, rfl⟩
      · exact ⟨2, rfl⟩
    refine i_ixL (SqL.of hq3) hk ?_
    walk_at "rd"
    refine ⟨t, _, rfl, .inl ⟨SqL.of (S3 _ _ ht2), fun tp htp => ?_⟩⟩
    with_reducible first | refine new_obj2 htp fun H4 S4 htp4 => ?_ | refine new_obj htp fun H4 S4 htp4 => ?_
    walk_at "rd"
    refine ⟨by walk_at "len", fun lk hlk => ?_⟩
    exact k lk kk ps _ ⟨tp, SqT.of upd_same, SqT.of (upd_new hlk htp4), hp1, hp2⟩ (S1.trans (S2.trans (S3.trans (S4.trans (same_upd hlk)))))
theorem sc__law_seen : FnScope ["_law_state", "_law_bit", "_law_counts", "_law_held", "_law_length"] ["_law_state", "_law_bit"] (defScope s__law_seen) := ⟨rfl, rfl, rfl, by decide +kernel, rfl, by decide +kernel, by decide +kernel⟩
def sp_lseen (K : PySem.W.Frag) : Sp := fun vs H Q _ => ∃ (r : Addr) (x : S5) (b : Int), vs = [.ref r, .int b] ∧ H r = some (.lst x.v) ∧ x.Ok ∧ 0 ≤ b ∧ b ≤ 1 ∧ ∀ r' H', H r' = none → H' r' = some (.lst (see5 x b).v) → Same H H' → Q (.ref r') H'
theorem ok__law_seen (T : Txt K mg a) : FnOk P w K mg base CX0 1 a.f__law_seen a.d__law_seen ["_law_state", "_law_bit"] (sp_lseen K) := by
  refine T.F__law_seen.ok sc__law_seen (fun vs H Q E h => ?_) (fun cdv A outer s H vs Q E hr h => ?_)
  · obtain ⟨r, x, b, rfl, _⟩ := h
    rfl
  · obtain ⟨r, x, b, rfl, hr', hx, b0, b1, k⟩ := h
    have hn := hx.n0
    have ho := hx.o0
    have hno := hx.no
    have hh0 := hx.h0
    have hh1 := hx.h1
    have hc0 := hx.c0
    have hc1 := hx.c1
    refine blk_cons (ps_set (i := 2) sc__law_seen.nd rfl (Or.inl rfl) (pe_lst (pa_cons (pe_op op_sub (pe_op op_add (pe_ix ix_list (pv 0) pe_int (fun _ _ => rfl)) pe_int) (pv 1)) (pa_cons (pe_op op_add (pe_ix ix_list (pv 0) pe_int (fun _ _ => rfl)) (pv 1)) pa_nil (star_ok rfl)) (star_ok rfl)))) ?_
    refine blk_cons (ps_mid (ps_if (pt_cmpR op_gt (pe_op op_add (pe_ix ix_list (pv 2) pe_int (fun _ _ => rfl)) (pe_ix ix_list (pv 2) pe_int (fun _ _ => rfl))) pe_int (nomark _)) (pss_one (ps_set (i := 2) sc__law_seen.nd rfl (Or.inl rfl) (pe_lst (pa_cons (pe_op op_fdivB (pe_op op_add (pe_ix ix_list (pv 2) pe_int (fun _ _ => rfl)) pe_int) pe_int) (pa_cons (pe_op op_fdivB (pe_op op_add (pe_ix ix_list (pv 2) pe_int (fun _ _ => rfl)) pe_int) pe_int) pa_nil (star_ok rfl)) (star_ok rfl))))) pss_nil)) ?_
    refine blk_cons (ps_set (i := 3) sc__law_seen.nd rfl (Or.inl rfl) (pe_op op_sub (pe_ix ix_list (pv 0) pe_int (fun _ _ => rfl)) (pe_op op_fdivB (pe_ix ix_list (pv 0) pe_int (fun _ _ => rfl)) pe_int))) ?_
    refine blk_cons (ps_mid (ps_if (pt_cmpR op_eq (pv 1) pe_int (nomark _)) (pss_one (ps_set (i := 3) sc__law_seen.nd rfl (Or.inl rfl) (pe_op op_add (pe_ix ix_list (pv 0) pe_int (fun _ _ => rfl)) (pe_op op_fdivB (pe_op op_sub pe_int (pe_ix ix_list (pv 0) pe_int (fun _ _ => rfl))) pe_int)))) pss_nil)) ?_
    refine blk_cons (ps_set (i := 4) sc__law_seen.nd rfl (Or.inl rfl) pe_int) ?_
    refine blk_cons (ps_mid (ps_if (PW.pt (pw_and (pt_cmpR op_gt (pe_ix ix_list (pv 0) pe_int (fun _ _ => rfl)) pe_int (nomark _)) (pw_and1 (pt_cmpR op_eq (pe_ix ix_list (pv 0) pe_int (fun _ _ => rfl)) (pv 1) (nomark _))))) (pss_one (ps_set (i := 4) sc__law_seen.nd rfl (Or.inl rfl) (pe_callB (call_min2 rfl) rfl T.z_min (by decide +kernel) (pa_cons pe_int (pa_cons (pe_op op_add (pe_ix ix_list (pv 0) pe_int (fun _ _ => rfl)) pe_int) pa_nil (star_ok rfl)) (star_ok rfl))))) pss_nil)) ?_
    refine ⟨_, (pss_one (ps_ret (pe_op op_cat (pv 2) (pe_lst (pa_cons (pe_callB (call_min2 rfl) rfl T.z_min (by decide +kernel) (pa_cons (pe_op op_sub pe_int pe_int) (pa_cons (pe_callB (call_max2 rfl) rfl T.z_max (by decide +kernel) (pa_cons pe_int (pa_cons (pv 3) pa_nil (star_ok rfl)) (star_ok rfl))) pa_nil (star_ok rfl)) (star_ok rfl))) (pa_cons (pv 1) (pa_cons (pv 4) pa_nil (star_ok rfl)) (star_ok rfl)) (star_ok rfl)))))), ?_⟩
    try dsimp only [cxOf]
    refine i_start (σ' := [some _, some _, none, none, none]) rfl ?_
    walk_at "rd"
    refine i_ixL (SqL.of hr') (atI_nat (j := 0) rfl) ?_
    walk_at "rd"
    refine i_ixL (SqL.of hr') (atI_nat (j := 1) rfl) ?_
    walk_at "rd"
    refine ⟨by walk_at "len", fun q hq => ?_⟩
    with_reducible first | refine new_obj2 hq fun H1 S1 hq1 => ?_ | refine new_obj hq fun H1 S1 hq1 => ?_
    have hr1 := S1 _ _ hr'
    walk_at "rd"
    refine i_mid (fun σ' H' => ∃ q', σ' = [some (.ref r), some (.int b), some (.ref q'), none, none] ∧ H' q' = some (.lst [.int (cnt5 (x.n + 1 - b) (x.o + b)).1, .int (cnt5 (x.n + 1 - b) (x.o + b)).2]) ∧ Same H H') ?_ ?_
    · walk_at "rd"
      refine i_ixL (SqL.of hq1) (atI_nat (j := 0) rfl) ?_
      walk_at "rd"
      refine i_ixL (SqL.of hq1) (atI_nat (j := 1) rfl) ?_
      walk_at "rd"
      unfold cnt5
      refine iteD (fun h => ?_) (fun h => ?_)
      · rw [if_pos h]
        walk_at "rd"
        refine i_ixL (SqL.of hq1) (atI_nat (j := 0) rfl) ?_
        walk_at "rd"
        refine i_ixL (SqL.of hq1) (atI_nat (j := 1) rfl) ?_
        walk_at "rd"
        refine ⟨by walk_at "len", fun q2 hq2 => ?_⟩
        walk_at "rd"
        exact ⟨q2, rfl, upd_same, S1.trans (same_upd hq2)⟩
      · rw [if_neg h]
        walk_at "rd"
        exact ⟨q, rfl, hq1, S1⟩
    rintro σ' H2 ⟨q', rfl, hq2, S2⟩
    have hr2 := S2 _ _ hr'
    walk_at "rd"
    refine i_ixL (SqL.of hr2) (atI_nat (j := 2) rfl) ?_
    walk_at "rd"
    refine i_ixL (SqL.of hr2) (atI_nat (j := 2) rfl) ?_
    walk_at "rd"
    refine i_mid (fun σ' H' => σ' = [some (.ref r), some (.int b), some (.ref q'), some (.int (if b = 1 then x.h + (16777216 - x.h) / 16 else x.h - x.h / 16)), none] ∧ H2 = H') ?_ ?_
    · walk_at "rd"
      refine iteD (fun h => ?_) (fun h => ?_)
      · rw [if_pos h]
        walk_at "rd"
        refine i_ixL (SqL.of hr2) (atI_nat (j := 2) rfl) ?_
        walk_at "rd"
        refine i_ixL (SqL.of hr2) (atI_nat (j := 2) rfl) ?_
        walk_at "rd"
        exact ⟨rfl, rfl⟩
      · rw [if_neg h]
        walk_at "rd"
        exact ⟨rfl, rfl⟩
    rintro σ' H' ⟨rfl, rfl⟩
    unfold see5 at k
    generalize (if b = 1 then x.h + (16777216 - x.h) / 16 else x.h - x.h / 16) = hd at k ⊢
    walk_at "rd"
    refine i_mid (fun σ' H' => σ' = [some (.ref r), some (.int b), some (.ref q'), some (.int hd), some (.int (len5 x b))] ∧ H2 = H') ?_ ?_
    · walk_at "rd"
      refine i_ixL (SqL.of hr2) (atI_nat (j := 4) rfl) ?_
      walk_at "rd"
      unfold len5
      refine iteD (fun h => ?_) (fun h => ?_)
      · walk_at "rd"
        refine i_ixL (SqL.of hr2) (atI_nat (j := 3) rfl) ?_
        walk_at "rd"
        refine iteD (fun h2 => ?_) (fun h2 => ?_)
        · rw [if_pos ⟨h, h2⟩]
          walk_at "rd"
          refine i_ixL (SqL.of hr2) (atI_nat (j := 4) rfl) ?_
          walk_at "rd"
          refine ⟨_, _, rfl, ?_⟩
          walk_at "rd"
          exact ⟨rfl, rfl⟩
        · rw [if_neg fun z => h2 z.2]
          walk_at "rd"
          exact ⟨rfl, rfl⟩
      · walk_at "rd"
        rw [if_neg (show ¬ (0 < x.c ∧ x.l = b) from fun z => h z.1)]
        exact ⟨rfl, rfl⟩
    rintro σ' H' ⟨rfl, rfl⟩
    walk_at "rd"
    refine ⟨_, _, rfl, ?_⟩
    walk_at "rd"
    refine ⟨_, _, rfl, ?_⟩
    walk_at "rd"
    refine ⟨by walk_at "len", fun q3 hq3 => ?_⟩
    with_reducible first | refine new_obj2 hq3 fun H3 S3 e3 => ?_ | refine new_obj hq3 fun H3 S3 e3 => ?_
    refine ⟨q', q3, _, _, rfl, rfl, S3 _ _ hq2, e3, line_le (by show 2 + 3 ≤ _; decide), fun w hw => ?_⟩
    exact k w _ ((S2.trans S3).free hw) upd_same (S2.trans (S3.trans (same_upd hw)))
theorem sc__law_due : FnScope ["_law_look_here", "_law_state", "_law_same"] ["_law_look_here", "_law_state"] (defScope s__law_due) := ⟨rfl, rfl, rfl, by decide +kernel, rfl, by decide +kernel, by decide +kernel⟩
def sp_ldue (K : PySem.W.Frag) : Sp := fun vs H Q _ => ∃ (lk r : Addr) (kd : Fin 3) (ps : List Int) (x : S5), vs = [.ref lk, .ref r] ∧ LookAt K H lk (.str (kdS kd)) ps ∧ H r = some (.lst x.v) ∧ x.Ok ∧ Q (.int (due5 kd x)) H
theorem fin3 (k : Fin 3) : k = 0 ∨ k = 1 ∨ k = 2 := by revert k; decide
theorem ok__law_due (T : Txt K mg a) : FnOk P w K mg base CX0 1 a.f__law_due a.d__law_due ["_law_look_here", "_law_state"] (sp_ldue K) := by
  refine T.F__law_due.ok sc__law_due (fun vs H Q E h => ?_) (fun cdv A outer s H vs Q E hr h => ?_)
  · obtain ⟨lk, r, kd, ps, x, rfl, _⟩ := h
    rfl
  · obtain ⟨lk, r, kd, ps, x, rfl, ⟨t, hl, _⟩, hr', hx, k⟩ := h
    have hn := hx.n0
    have ho := hx.o0
    have hno := hx.no
    have hc0 := hx.c0
    have hc1 := hx.c1
    refine blk_cons (ps_if (pt_cmpR op_eq (pe_ix ix_tup (pv 0) pe_int (fun _ _ => rfl)) pe_str (nomark _)) (pss_one (ps_ret (pe_op op_fdivB (pe_op op_mul (pe_op op_add (pe_op op_mul pe_int (pe_ix ix_list (pv 1) pe_int (fun _ _ => rfl))) pe_int) pe_int) (pe_op op_add (pe_op op_mul pe_int (pe_op op_add (pe_ix ix_list (pv 1) pe_int (fun _ _ => rfl)) (pe_ix ix_list (pv 1) pe_int (fun _ _ => rfl)))) pe_int)))) pss_nil) ?_
    refine blk_cons (ps_if (pt_cmpR op_eq (pe_ix ix_tup (pv 0) pe_int (fun _ _ => rfl)) pe_str (nomark _)) (pss_one (ps_ret (pe_ix ix_list (pv 1) pe_int (fun _ _ => rfl)))) pss_nil) ?_
    refine blk_cons (ps_set (i := 2) sc__law_due.nd rfl (Or.inl rfl) (pe_op op_fdivB (pe_op op_mul (pe_op op_add (pe_op op_mul pe_int (pe_ix ix_list (pv 1) pe_int (fun _ _ => rfl))) pe_int) pe_int) (pe_op op_add (pe_op op_mul pe_int (pe_ix ix_list (pv 1) pe_int (fun _ _ => rfl))) pe_int))) ?_
    refine blk_cons (ps_if (pt_cmpR op_eq (pe_ix ix_list (pv 1) pe_int (fun _ _ => rfl)) pe_int (nomark _)) (pss_one (ps_ret (pv 2))) pss_nil) ?_
    refine ⟨_, (pss_one (ps_ret (pe_op op_sub pe_int (pv 2)))), ?_⟩
    try dsimp only [cxOf]
    refine i_start (σ' := [some _, some _, none]) rfl ?_
    walk_at "rd"
    refine i_ixT hl (atI_nat (j := 0) rfl) ?_
    walk_at "rd"
    refine ⟨rfl, ?_⟩
    rcases fin3 kd with rfl | rfl | rfl
    · refine ⟨_, rfl, iteDp rfl ?_⟩
      walk_at "rd"
      refine i_ixL (SqL.of hr') (atI_nat (j := 1) rfl) ?_
      walk_at "rd"
      refine i_ixL (SqL.of hr') (atI_nat (j := 0) rfl) ?_
      walk_at "rd"
      refine i_ixL (SqL.of hr') (atI_nat (j := 1) rfl) ?_
      walk_at "rd"
      exact k
    · refine ⟨_, rfl, iteDn (by intro z; injection z with z; revert z; decide +kernel) ?_⟩
      walk_at "rd"
      refine i_ixT hl (atI_nat (j := 0) rfl) ?_
      walk_at "rd"
      refine ⟨rfl, ?_⟩
      refine ⟨_, rfl, iteDp rfl ?_⟩
      walk_at "rd"
      exact i_ixL (SqL.of hr') (atI_nat (j := 2) rfl) k
    · refine ⟨_, rfl, iteDn (by intro z; injection z with z; revert z; decide +kernel) ?_⟩
      walk_at "rd"
      refine i_ixT hl (atI_nat (j := 0) rfl) ?_
      walk_at "rd"
      refine ⟨rfl, ?_⟩
      refine ⟨_, rfl, iteDn (by intro z; injection z with z; revert z; decide +kernel) ?_⟩
      walk_at "rd"
      refine i_ixL (SqL.of hr') (atI_nat (j := 4) rfl) ?_
      walk_at "rd"
      refine i_ixL (SqL.of hr') (atI_nat (j := 4) rfl) ?_
      walk_at "rd"
      refine i_ixL (SqL.of hr') (atI_nat (j := 3) rfl) ?_
      walk_at "rd"
      have k : Q (.int (if x.l = 1 then rnGive x.c else 16777216 - rnGive x.c)) H := k
      refine iteD (fun h => ?_) (fun h => ?_)
      · rw [if_pos h] at k
        walk_at "rd"
        exact k
      · rw [if_neg h] at k
        walk_at "rd"
        exact k
theorem sc__law_decisions : FnScope ["_law_texts", "_law_found", "_law_text", "_law_k", "_law_node", "_law_place", "_law_bit"] ["_law_texts"] (defScope s__law_decisions) := ⟨rfl, rfl, rfl, by decide +kernel, rfl, by decide +kernel, by decide +kernel⟩
def sp_ldecs (K : PySem.W.Frag) : Sp := fun vs H Q _ => ∃ (T0 : Addr) (tl : List Addr), vs = [.ref T0] ∧ H T0 = some (.lst (tl.map V.ref)) ∧ tl.length ≤ 3 ∧ (∀ t ∈ tl, ∃ sg : List Int, H t = some (.lst (sg.map V.int)) ∧ sg.length ≤ 20) ∧ ∀ F H', H F = none → FdAt H' F 1000 → Same H H' → Q (.ref F) H'
theorem ok__law_decisions (T : Txt K mg a) : FnOk P w K mg base CX0 1 a.f__law_decisions a.d__law_decisions ["_law_texts"] (sp_ldecs K) := by
  refine T.F__law_decisions.ok sc__law_decisions (fun vs H Q E h => ?_) (fun cdv A outer s H vs Q E hr h => ?_)
  · obtain ⟨T0, tl, rfl, _⟩ := h
    rfl
  · obtain ⟨T0, tl, rfl, hT, htl, hts, k⟩ := h
    refine ⟨_, (pss_cons (ps_set (i := 1) sc__law_decisions.nd rfl (Or.inl rfl) (pe_lst pa_nil)) (pss_cons (ps_for PassesOwn.never rfl (pi_list (pv 0)) (pg_name (i := 2) sc__law_decisions.nd rfl (Or.inl rfl)) (pss_cons (ps_for PassesOwn.never rfl (pi_range1 rfl T.z_range (pa_cons (pe_callB call_len_seq rfl T.z_len (by decide +kernel) (pa_cons (pv 2) pa_nil (star_ok rfl))) pa_nil (star_ok rfl))) (pg_name (i := 3) sc__law_decisions.nd rfl (Or.inl rfl)) (pss_cons (ps_expr (pe_bm PySem.F.plainAttrs_list PySem.F.slot_list_append PySem.F.type_list_append mt_append (pv 1) (pa_cons (pe_tup (pa_cons (pe_slice sl_list (pv 2) po_none (po_some (pv 3))) (pa_cons pe_int (pa_cons pe_int pa_nil (star_ok rfl)) (star_ok rfl)) (star_ok rfl))) pa_nil (star_ok rfl)))) (pss_cons (ps_set (i := 4) sc__law_decisions.nd rfl (Or.inl rfl) pe_int) (pss_one (ps_for PassesOwn.never rfl (pi_list (pe_lst (pa_cons pe_int (pa_cons pe_int (pa_cons pe_int (pa_cons pe_int (pa_cons pe_int (pa_cons pe_int (pa_cons pe_int (pa_cons pe_int pa_nil (star_ok rfl)) (star_ok rfl)) (star_ok rfl)) (star_ok rfl)) (star_ok rfl)) (star_ok rfl)) (star_ok rfl)) (star_ok rfl)))) (pg_name (i := 5) sc__law_decisions.nd rfl (Or.inl rfl)) (pss_cons (ps_set (i := 6) sc__law_decisions.nd rfl (Or.inl rfl) (pe_op op_mod (pe_op op_fdivB (pe_ix ix_list (pv 2) (pv 3) (fun _ _ => rfl)) (pv 5)) pe_int)) (pss_cons (ps_expr (pe_bm PySem.F.plainAttrs_list PySem.F.slot_list_append PySem.F.type_list_append mt_append (pv 1) (pa_cons (pe_tup (pa_cons (pe_slice sl_list (pv 2) po_none (po_some (pv 3))) (pa_cons (pv 4) (pa_cons (pv 6) pa_nil (star_ok rfl)) (star_ok rfl)) (star_ok rfl))) pa_nil (star_ok rfl)))) (pss_one (ps_set (i := 4) sc__law_decisions.nd rfl (Or.inl rfl) (pe_op op_add (pe_op op_mul pe_int (pv 4)) (pv 6))))))))))) (pss_one (ps_expr (pe_bm PySem.F.plainAttrs_list PySem.F.slot_list_append PySem.F.type_list_append mt_append (pv 1) (pa_cons (pe_tup (pa_cons (pv 2) (pa_cons pe_int (pa_cons pe_int pa_nil (star_ok rfl)) (star_ok rfl)) (star_ok rfl))) pa_nil (star_ok rfl))))))) (pss_one (ps_ret (pv 1))))), ?_⟩
    try dsimp only [cxOf]
    refine i_start (σ' := [some _, none, none, none, none, none, none]) rfl ?_
    walk_at "rd"
    refine ⟨by walk_at "len", fun F hF0 => ?_⟩
    with_reducible first | refine new_obj2 hF0 fun H1 S1 hF1 => ?_ | refine new_obj hF0 fun H1 S1 hF1 => ?_
    walk_at "rd"
    refine ⟨T0, rfl, ⟨_, SqL.of (S1 _ _ hT)⟩, for_list (K := K) (a := T0) (xs := tl.map V.ref) (fun i σ2 G => ∃ v1 v2 v3 v4 v5 : Option V, σ2 = [some (.ref T0), some (.ref F), v1, v2, v3, v4, v5] ∧ FdAt G F (200 * i) ∧ Same H G)
      ⟨_, _, _, _, _, rfl, ⟨[], hF1, Nat.le_refl _, fun _ z => (nomatch z)⟩, S1⟩ (fun i σ2 G _ ⟨_, _, _, _, _, _, _, S⟩ => SqL.of (S _ _ hT)) ?_ ?_⟩
    · rintro i y σ2 G hi ⟨v1, v2, v3, v4, v5, rfl, hFd, SG⟩
      obtain ⟨tx, rfl, htm⟩ : ∃ t, y = V.ref t ∧ t ∈ tl := by
        obtain ⟨t, ht, rfl⟩ := List.mem_map.mp (List.mem_of_getElem? hi)
        exact ⟨t, rfl, ht⟩
      have hil : i < tl.length := by
        rcases Nat.lt_or_ge i tl.length with q | q
        · exact q
        · rw [List.getElem?_eq_none (by rw [List.length_map]; exact q)] at hi; cases hi
      obtain ⟨sg, htx, hsg⟩ := hts tx htm
      have nFx : tx ≠ F := ne_of_none htx hF0
      walk_at "rd"
      refine i_len (SqL.of (SG _ _ htx)) ?_
      rw [List.length_map]
      walk_at "rd"
      refine ⟨_, rfl, by omega, by omega, for_range (n := ((sg.length : Nat) : Int).toNat) (fun j σ2 G => ∃ v2 v3 v4 v5 : Option V, σ2 = [some (.ref T0), some (.ref F), some (.ref tx), v2, v3, v4, v5] ∧ FdAt G F (200 * i + 9 * j) ∧ Same H G)
        ⟨_, _, _, _, rfl, hFd, SG⟩ ?_ ?_⟩
      · rintro j σ3 G2 hj ⟨v2, v3, v4, v5, rfl, hFd2, SG2⟩
        have hj' : j < sg.length := by omega
        have hj20 : j < 20 := by omega
        have e0 : (0 : Int) + (j : Int) = (j : Nat) := by omega
        rw [e0]
        obtain ⟨ts, hF2, hn2, hd2⟩ := hFd2
        walk_at "rd"
        refine i_tyL hF2 ?_
        walk_at "rd"
        refine i_slL (SqL.of (SG2 _ _ htx)) fun sl hsl => ?_
        obtain ⟨sg1, hs1, hsl1, _⟩ := cut_sub sg none (some (j : Int))
        rw [hs1]
        with_reducible first | refine new_obj2 hsl fun G3 T3 hsl3 => ?_ | refine new_obj hsl fun G3 T3 hsl3 => ?_
        walk_at "rd"
        refine ⟨by walk_at "len", fun t ht => ?_⟩
        with_reducible first | refine new_obj2 ht fun G4 T4 ht4 => ?_ | refine new_obj ht fun G4 T4 ht4 => ?_
        walk_at "rd"
        have T34 := T3.trans T4
        refine i_append (T34 _ _ hF2) (line_lt (by rw [List.length_map]; omega)) ?_
        have nslF : sl ≠ F := fun z => by rw [z, hF2] at hsl; cases hsl
        have hFd5 := FdAt.push hF2 hn2 hd2 T34 ht4 (T4 _ _ hsl3) nslF (by omega) (by decide) (by decide)
        have S5 : Same H (upd G4 F (.lst (ts.map V.ref ++ [.ref t]))) := fun b o e => upd_oth (ne_of_none e hF0) (T34 _ _ (SG2 b o e))
        generalize upd G4 F (.lst (ts.map V.ref ++ [.ref t])) = G5 at hFd5 S5 ⊢
        walk_at "rd"
        refine ⟨by walk_at "len", fun u hu => ?_⟩
        have T6 := same_upd (o := (HO.lst [V.int 128, V.int 64, V.int 32, V.int 16, V.int 8, V.int 4, V.int 2, V.int 1])) hu
        have hu6 : upd G5 u (HO.lst [V.int 128, V.int 64, V.int 32, V.int 16, V.int 8, V.int 4, V.int 2, V.int 1]) u = some (HO.lst [V.int 128, V.int 64, V.int 32, V.int 16, V.int 8, V.int 4, V.int 2, V.int 1]) := upd_same
        generalize upd G5 u (HO.lst [V.int 128, V.int 64, V.int 32, V.int 16, V.int 8, V.int 4, V.int 2, V.int 1]) = G6 at T6 hu6 ⊢
        have nuF : u ≠ F := fun z => by obtain ⟨_, q, _⟩ := hFd5; rw [z, q] at hu; cases hu
        refine ⟨u, rfl, ⟨_, SqL.of hu6⟩, for_list (K := K) (a := u) (xs := [V.int 128, V.int 64, V.int 32, V.int 16, V.int 8, V.int 4, V.int 2, V.int 1]) (fun l σ2 G => ∃ (nd : Int) (v4 v5 : Option V), σ2 = [some (.ref T0), some (.ref F), some (.ref tx), some (.int j), some (.int nd), v4, v5] ∧ FdAt G F (200 * i + 9 * j + 1 + l) ∧ G u = some (.lst [V.int 128, V.int 64, V.int 32, V.int 16, V.int 8, V.int 4, V.int 2, V.int 1]) ∧ Same H G)
          ⟨1, _, _, rfl, ?_, hu6, S5.trans T6⟩ (fun i σ2 G _ ⟨_, _, _, _, _, z, _⟩ => SqL.of z) ?_ ?_⟩
        · obtain ⟨ts', q1, q2, q3⟩ := hFd5
          exact ⟨ts', T6 _ _ q1, q2, fun t' ht' => let ⟨sl', sg', nd', b', w1, w2, w3⟩ := q3 t' ht'; ⟨sl', sg', nd', b', T6 _ _ w1, T6 _ _ w2, w3⟩⟩
        · rintro l y σ4 G7 hl ⟨nd, v4, v5, rfl, ⟨ts, hF7, hn7, hd7⟩, hu7, SG7⟩
          obtain ⟨w', rfl, w0, w1⟩ : ∃ w' : Int, y = V.int w' ∧ 0 < w' ∧ w' ≤ 128 := by
            have hm := List.mem_of_getElem? hl
            simp only [List.mem_cons, List.not_mem_nil, or_false] at hm
            rcases hm with rfl | rfl | rfl | rfl | rfl | rfl | rfl | rfl <;> exact ⟨_, rfl, by decide, by decide⟩
          have hl8 : l < 8 := by
            rcases Nat.lt_or_ge l 8 with q | q
            · exact q
            · rw [List.getElem?_eq_none (by show 8 ≤ l; exact q)] at hl; cases hl
          walk_at "rd"
          refine i_ixL (v := .int sg[j]) (SqL.of (SG7 _ _ htx)) (atI_nat (by rw [List.getElem?_map, List.getElem?_eq_getElem hj']; rfl)) ?_
          walk_at "rd"
          have c0 : 0 ≤ sg[j] / w' % 2 := Int.emod_nonneg _ (by decide)
          have c1 : sg[j] / w' % 2 < 2 := Int.emod_lt_of_pos _ (by decide)
          generalize sg[j] / w' % 2 = b at c0 c1 ⊢
          refine i_tyL hF7 ?_
          walk_at "rd"
          refine i_slL (SqL.of (SG7 _ _ htx)) fun sl hsl => ?_
          rw [hs1]
          with_reducible first | refine new_obj2 hsl fun G8 T8 hsl8 => ?_ | refine new_obj hsl fun G8 T8 hsl8 => ?_
          walk_at "rd"
          refine ⟨by walk_at "len", fun t ht => ?_⟩
          with_reducible first | refine new_obj2 ht fun G9 T9 ht9 => ?_ | refine new_obj ht fun G9 T9 ht9 => ?_
          walk_at "rd"
          have T89 := T8.trans T9
          refine i_append (T89 _ _ hF7) (line_lt (by rw [List.length_map]; omega)) ?_
          have nslF : sl ≠ F := fun z => by rw [z, hF7] at hsl; cases hsl
          have hFd9 := FdAt.push hF7 hn7 hd7 T89 ht9 (T9 _ _ hsl8) nslF (by omega) c0 (by omega)
          walk_at "rd"
          exact ⟨_, _, _, rfl, hFd9, upd_oth nuF (T89 _ _ hu7), fun b o e => upd_oth (ne_of_none e hF0) (T89 _ _ (SG7 b o e))⟩
        · rintro σ4 G7 ⟨nd, v4, v5, rfl, ⟨ts, hF7, hn7, hd7⟩, hu7, SG7⟩
          have hn7 : ts.length ≤ 200 * i + 9 * j + 1 + 8 := hn7
          walk_at "rd"
          exact ⟨_, _, _, _, rfl, ⟨ts, hF7, by omega, hd7⟩, SG7⟩
      · rintro σ3 G2 ⟨v2, v3, v4, v5, rfl, ⟨ts, hF2, hn2, hd2⟩, SG2⟩
        walk_at "rd"
        refine i_tyL hF2 ?_
        walk_at "rd"
        refine ⟨by walk_at "len", fun t ht => ?_⟩
        with_reducible first | refine new_obj2 ht fun G4 T4 ht4 => ?_ | refine new_obj ht fun G4 T4 ht4 => ?_
        walk_at "rd"
        refine i_append (T4 _ _ hF2) (line_lt (by rw [List.length_map]; omega)) ?_
        obtain ⟨ts', q1, q2, q3⟩ := FdAt.push hF2 hn2 hd2 T4 ht4 ((SG2.trans T4) _ _ htx) nFx hsg (by decide) (by decide)
        walk_at "rd"
        exact ⟨_, _, _, _, _, rfl, ⟨ts', q1, by omega, q3⟩, fun b o e => upd_oth (ne_of_none e hF0) ((SG2.trans T4) b o e)⟩
    · rintro σ2 G ⟨v1, v2, v3, v4, v5, rfl, ⟨ts, q1, q2, q3⟩, SG⟩
      rw [List.length_map] at q2
      walk_at "rd"
      exact k F G hF0 ⟨ts, q1, by omega, q3⟩ SG
theorem sc__law_context : FnScope ["_law_look_here", "_law_signs", "_law_node", "_law_some"] ["_law_look_here", "_law_signs", "_law_node"] (defScope s__law_context) := ⟨rfl, rfl, rfl, by decide +kernel, rfl, by decide +kernel, by decide +kernel⟩
def sp_lctx (K : PySem.W.Frag) : Sp := fun vs H Q _ => ∃ (k l : Addr) (x : V) (ps sg : List Int) (nd : Int), vs = [.ref k, .ref l, .int nd] ∧ LookAt K H k x ps ∧ H l = some (.lst (sg.map V.int)) ∧ sg.length ≤ 1000 ∧
  ∀ r H', H r = none → H' r = some (.tup ((ctx ps sg nd).map V.int)) → Same H H' → Q (.ref r) H'
theorem LookAt.mv {K : PySem.W.Frag} {H H' : Hp} {k : Addr} {x : V} {ps : List Int} (h : LookAt K H k x ps) (h1 : ∀ t xs, SqT K H t xs → SqT K H' t xs) : LookAt K H' k x ps := by
  obtain ⟨t, q1, q2, q3, q4⟩ := h
  exact ⟨t, h1 _ _ q1, h1 _ _ q2, q3, q4⟩
theorem ok__law_context (T : Txt K mg a) : FnOk P w K mg base CX0 1 a.f__law_context a.d__law_context ["_law_look_here", "_law_signs", "_law_node"] (sp_lctx K) := by
  refine T.F__law_context.ok sc__law_context (fun vs H Q E h => ?_) (fun cdv A outer s H vs Q E hr h => ?_)
  · obtain ⟨k, l, x, ps, sg, nd, rfl, _⟩ := h
    rfl
  · obtain ⟨ka, l, x, ps, sg, nd, rfl, ⟨t, hk, ht, hps, hpl⟩, hl, hsz, k⟩ := h
    refine blk_cons (ps_set (i := 3) sc__law_context.nd rfl (Or.inr rfl) (pe_op op_cat (pe_lst (pa_cons pe_int (pa_cons pe_int (pa_cons pe_int (pa_cons pe_int (pa_cons pe_int (pa_cons pe_int (pa_cons pe_int (pa_cons pe_int pa_nil (star_ok rfl)) (star_ok rfl)) (star_ok rfl)) (star_ok rfl)) (star_ok rfl)) (star_ok rfl)) (star_ok rfl)) (star_ok rfl))) (pv 1))) ?_
    refine ⟨_, (pss_one (ps_ret (pe_callTy call_tuple_of rfl T.z_tuple (by decide +kernel) (pa_cons (pe_op op_cat (pe_compF (js := [3]) (ys := ["_law_some"]) rfl (pi_tup (pe_ix ix_tup (pv 0) pe_int (fun _ _ => rfl))) (fun C s2 H2 fp => (pe_ix (r := rIxL K) ix_list (pv 1) (pe_op op_sub (pe_callB (r := rLenS K) call_lenS rfl T.z_len (by decide +kernel) (pa_cons (pv 1) pa_nil (star_ok rfl))) (pv 0)) (fun _ _ => rfl))) rfl rfl (hyc := (all_cons rfl all_nil)) (hrel := (all_cons rfl all_nil))) (pe_lst (pa_cons (pv 2) pa_nil (star_ok rfl)))) pa_nil (star_ok rfl))))), ?_⟩
    try dsimp only [cxOf]
    refine i_start (σ' := [some _, some _, some _, none]) rfl ?_
    walk_at "rd"
    refine ⟨by walk_at "len", fun q hq => ?_⟩
    with_reducible first | refine new_obj2 hq fun H1 S1 hq1 => ?_ | refine new_obj hq fun H1 S1 hq1 => ?_
    walk_at "rd"
    refine ⟨q, l, _, _, rfl, rfl, hq1, S1 _ _ hl, line_le (by rw [List.length_map]; show 8 + _ ≤ _; omega), fun c hc => ?_⟩
    have ec : [V.int 256, V.int 256, V.int 256, V.int 256, V.int 256, V.int 256, V.int 256, V.int 256] ++ sg.map V.int = (List.replicate 8 (256 : Int) ++ sg).map V.int := by rw [List.map_append]; rfl
    rw [ec]
    with_reducible first | refine new_obj2 hc fun H2 S2 hc2 => ?_ | refine new_obj hc fun H2 S2 hc2 => ?_
    have S12 := S1.trans S2
    walk_at "rd"
    refine i_ixT (S12.tup hk) (atI_nat (j := 1) rfl) ?_
    refine ⟨t, rfl, ⟨_, S12.tup ht⟩, fun D hD => ?_⟩
    have hpz : (ps.map V.int).length < sizeLine := line_lt (by rw [List.length_map]; omega)
    refine compF_tupM (xs := ps.map V.int) (bkV sg) (S12.tup ht) hD (fun i y H3 hy S3 hD3 => ?_) (fun H3 S3 hD3 => ?_)
    · obtain ⟨p, rfl, hpm, _, _⟩ := getInt hy
      obtain ⟨p1, p8⟩ := hps p hpm
      have hc3 := S3 _ _ hc2
      walk_at "rd"
      refine i_lenS (SqL.of hc3) ?_
      walk_at "rd"
      refine i_ixL (SqL.of hc3) (back_some p1 p8) ?_
      exact Mp.done hD hpz hy S3 hD3 rfl
    · rw [bkV_map] at hD3
      walk_at "rd"
      refine ⟨by walk_at "len", fun n hn => ?_⟩
      with_reducible first | refine new_obj2 hn fun H4 S4 hn4 => ?_ | refine new_obj hn fun H4 S4 hn4 => ?_
      refine ⟨D, n, _, _, rfl, rfl, S4 _ _ hD3, hn4, line_le (by rw [List.length_map, List.length_map]; show _ + 1 ≤ _; omega), fun c2 hc2 => ?_⟩
      with_reducible first | refine new_obj2 hc2 fun H5 S5 hc5 => ?_ | refine new_obj hc2 fun H5 S5 hc5 => ?_
      refine ⟨c2, _, rfl, .inl ⟨SqL.of hc5, fun r hr0 => ?_⟩⟩
      have S := S12.trans (S3.trans (S4.trans S5))
      refine k r _ (S.free hr0) (upd_same.trans ?_) (S.trans (same_upd hr0))
      unfold ctx
      rw [List.map_append]
      rfl
theorem sc__law_right : FnScope ["_law_book", "_law_look_here", "_law_seen_here", "_law_row", "_law_node", "_law_signs", "_law_found", "_law_due_here"] ["_law_book", "_law_look_here", "_law_seen_here", "_law_row", "_law_node"] (defScope s__law_right) := ⟨rfl, rfl, rfl, by decide +kernel, rfl, by decide +kernel, by decide +kernel⟩
def sp_lright (K : PySem.W.Frag) (a : Ads) : Sp := fun vs H Q _ => ∃ (p dx lk d e row : Addr) (kd : Fin 3) (f : List Int → Option Slt) (O : Addr → Prop) (m m2 : Nat) (N : Addr → Prop) (g : List Int → Option S5) (ps sg : List Int) (nd : Int), vs = [.ref p, .ref lk, .ref e, .ref row, .int nd] ∧ BkAt a H p dx lk d kd f O m ∧ LookAt K H lk (.str (kdS kd)) ps ∧ LwAt H e g m2 N ∧ Agr kd f g ∧ H row = some (.lst (sg.map V.int)) ∧ sg.length ≤ 1000 ∧ ∀ H', Same H H' → Q (.bl true) H'
theorem ok__law_right (T : Txt K mg a) : FnOk P w K mg base CX0 4 a.f__law_right a.d__law_right ["_law_book", "_law_look_here", "_law_seen_here", "_law_row", "_law_node"] (sp_lright K a) := by
  refine T.F__law_right.ok sc__law_right (fun vs H Q E h => ?_) (fun cdv A outer s H vs Q E hr h => ?_)
  · obtain ⟨p, dx, lk, d, e, row, kd, f, O, m, m2, N, g, ps, sg, nd, rfl, _⟩ := h
    rfl
  · obtain ⟨p, dx, lk, d, e, row, kd, f, O, m, m2, N, g, ps, sg, nd, rfl, hb, hl, hw, hag, hrow, hsz, k⟩ := h
    obtain ⟨kvs, e1, e2, e3, e4⟩ := hw
    have hdue := hag.due (ctx ps sg nd)
    refine blk_cons (ps_set (i := 5) sc__law_right.nd rfl (Or.inl rfl) (pe_callTy call_list_of rfl T.z_list (by decide +kernel) (pa_cons (pv 3) pa_nil (star_ok rfl)))) ?_
    refine blk_cons (ps_set (i := 6) sc__law_right.nd rfl (Or.inl rfl) (pe_meth (pv 0) T.cl_Book T.M_Book_chance (ok_Book_chance T) (hr.mono (by decide)) T.B_Book_chance .nil pass0 (pa_cons (pv 3) (pa_cons (pv 4) pa_nil (star_ok rfl)) (star_ok rfl)))) ?_
    refine blk_cons (ps_set (i := 7) sc__law_right.nd rfl (Or.inl rfl) (pe_call (ok__law_due T) (hr.mono (by decide)) rfl T.m__law_due T.F__law_due.kp T.B__law_due .nil pass0 (pa_cons (pv 1) (pa_cons (pe_dget2 (hu_of hr) (pv 2) (pe_call (ok__law_context T) (hr.mono (by decide)) rfl T.m__law_context T.F__law_context.kp T.B__law_context .nil pass0 (pa_cons (pv 1) (pa_cons (pv 5) (pa_cons (pv 4) pa_nil (star_ok rfl)) (star_ok rfl)) (star_ok rfl))) (pe_lst (pa_cons pe_int (pa_cons pe_int (pa_cons pe_int (pa_cons pe_int (pa_cons pe_int pa_nil (star_ok rfl)) (star_ok rfl)) (star_ok rfl)) (star_ok rfl)) (star_ok rfl))) ⟨rfl, rfl, rfl, rfl⟩) pa_nil (star_ok rfl)) (star_ok rfl)))) ?_
    refine blk_cons (ps_expr (pe_meth (pv 0) T.cl_Book T.M_Book_chance (ok_Book_chance T) (hr.mono (by decide)) T.B_Book_chance .nil pass0 (pa_cons (pv 3) (pa_cons (pe_op op_sub pe_int (pv 4)) pa_nil (star_ok rfl)) (star_ok rfl)))) ?_
    refine ⟨_, (pss_one (ps_ret (pe_and (pe_call (ok__law_whole T) (hr.mono (by decide)) rfl T.m__law_whole T.F__law_whole.kp T.B__law_whole .nil pass0 (pa_cons (pv 6) pa_nil (star_ok rfl))) (pe_and (pe_cmpR op_eq (pv 6) (pv 7) (nomark _)) (pe_and (pe_cmpR op_eq (pe_meth (pv 0) T.cl_Book T.M_Book_chance (ok_Book_chance T) (hr.mono (by decide)) T.B_Book_chance .nil pass0 (pa_cons (pv 3) (pa_cons (pv 4) pa_nil (star_ok rfl)) (star_ok rfl))) (pv 7) (nomark _)) (pe_one (pe_cmpR (op_eqD hr.units) (pv 3) (pv 5) (nomark _)))))))), ?_⟩
    try dsimp only [cxOf]
    refine i_start (σ' := [some _, some _, some _, some _, some _, none, none, none]) rfl ?_
    walk_at "rd"
    refine i_listof (SqL.of hrow) fun sn hsn => ?_
    with_reducible first | refine new_obj2 hsn fun H1 S1 hsn1 => ?_ | refine new_obj hsn fun H1 S1 hsn1 => ?_
    have hb1 := hb.same S1
    have hme1 := hb1.me
    walk_at "rd"
    refine ⟨p, dx, lk, d, row, kd, f, O, m, _, ps, sg, nd, rfl, hb1, hl.same S1, SqL.of (S1 _ _ hrow), fun H2 S2 => ?_⟩
    have S12 := S1.trans S2
    walk_at "rd"
    refine ⟨e, rfl, .inr ⟨kvs, .inl (S12 _ _ e1)⟩, ?_⟩
    walk_at "rd"
    refine ⟨lk, sn, _, ps, sg, nd, rfl, hl.same S12, S2 _ _ hsn1, hsz, fun r H3 hr0 hr3 S3 => ?_⟩
    have S13 := S12.trans S3
    walk_at "rd"
    refine ⟨by walk_at "len", fun dv hdv => ?_⟩
    have S4 := same_upd (o := (HO.lst [V.int 0, V.int 0, V.int 8388608, V.int 0, V.int 0])) hdv
    have hdv4 : upd H3 dv (HO.lst [V.int 0, V.int 0, V.int 8388608, V.int 0, V.int 0]) dv = some (HO.lst [V.int 0, V.int 0, V.int 8388608, V.int 0, V.int 0]) := upd_same
    generalize upd H3 dv (HO.lst [V.int 0, V.int 0, V.int 8388608, V.int 0, V.int 0]) = H4 at S4 hdv4 ⊢
    have S14 := S13.trans S4
    have hr4 : H4 r = some (.tup ((kI (ctx ps sg nd)).map kV)) := by rw [kI_map]; exact S4 _ _ hr3
    refine ⟨_, DGet.t (S14 _ _ e1) hr4, ?_⟩
    have hst : ∃ r', (valV kvs (kI (ctx ps sg nd))).getD (V.ref dv) = .ref r' ∧ H4 r' = some (.lst ((g (ctx ps sg nd)).getD s50).v) ∧ ((g (ctx ps sg nd)).getD s50).Ok := by
      cases hg : g (ctx ps sg nd) with
      | none =>
        rw [e3 _ hg]
        exact ⟨dv, rfl, hdv4, s50_ok⟩
      | some x =>
        obtain ⟨ok, r', q1, q2, _⟩ := e4 _ x hg
        rw [q1]
        exact ⟨r', rfl, S14 _ _ q2, ok⟩
    obtain ⟨r', q1, q2, q3⟩ := hst
    rw [q1]
    walk_at "rd"
    refine ⟨lk, r', kd, ps, _, rfl, hl.same S14, q2, q3, ?_⟩
    rw [hdue]
    have hb4 := hb.same S14
    have hme4 := hb4.me
    walk_at "rd"
    refine ⟨p, dx, lk, d, row, kd, f, O, m, _, ps, sg, 255 - nd, rfl, hb4, hl.same S14, SqL.of (S14 _ _ hrow), fun H5 S5 => ?_⟩
    have S15 := S14.trans S5
    walk_at "rd"
    refine lw_int ?_
    walk_at "rd"
    rw [decide_eq_true rfl]
    have hb5 := hb.same S15
    have hme5 := hb5.me
    walk_at "rd"
    refine ⟨p, dx, lk, d, row, kd, f, O, m, _, ps, sg, nd, rfl, hb5, hl.same S15, SqL.of (S15 _ _ hrow), fun H6 S6 => ?_⟩
    walk_at "rd"
    rw [decide_eq_true rfl]
    walk_at "rd"
    refine i_eqL sg sg (SqL.of ((S15.trans S6) _ _ hrow)) (SqL.of ((S2.trans (S3.trans (S4.trans (S5.trans S6)))) _ _ hsn1)) ?_
    rw [decide_eq_true rfl]
    exact k _ (S15.trans S6)
theorem sc__law_refused : FnScope ["_law_book", "_law_signs", "_law_node", "_law_thing", "_law_kinds", "e"] ["_law_book", "_law_signs", "_law_node", "_law_thing"] (defScope s__law_refused) := ⟨rfl, rfl, rfl, by decide +kernel, rfl, by decide +kernel, by decide +kernel⟩
def sp_lrefused (K : PySem.W.Frag) (a : Ads) : Sp := fun vs H Q _ => ∃ (p dx lk d sl : Addr) (kd : Fin 3) (f : List Int → Option Slt) (O : Addr → Prop) (m : Nat) (ps sg : List Int) (nd : Int) (x : V) (n : String), vs = [.ref p, .ref sl, .int nd, x] ∧ BkAt a H p dx lk d kd f O m ∧ m < 1000000 ∧ LookAt K H lk (.str (kdS kd)) ps ∧ SqL K H sl (sg.map V.int) ∧ TyOf K H x (.type n) ∧ bitV x = false ∧ ∀ H', Same H H' → Q (.bl true) H'
theorem ok__law_refused (T : Txt K mg a) : FnOk P w K mg base CX0 6 a.f__law_refused a.d__law_refused ["_law_book", "_law_signs", "_law_node", "_law_thing"] (sp_lrefused K a) := by
  refine T.F__law_refused.ok sc__law_refused (fun vs H Q E h => ?_) (fun cdv A outer s H vs Q E hr h => ?_)
  · obtain ⟨p, dx, lk, d, sl, kd, f, O, m, ps, sg, nd, x, n, rfl, _⟩ := h
    rfl
  · obtain ⟨p, dx, lk, d, sl, kd, f, O, m, ps, sg, nd, x, n, rfl, hb, hm, hl, hs, ty, hx, k⟩ := h
    refine ⟨_, (pss_cons (ps_set (i := 4) sc__law_refused.nd rfl (Or.inl rfl) (pe_lst pa_nil)) (pss_cons (ps_try (i := 5) (fun pn Ex => (pss_one (ps_expr (pe_methE (pv 0) T.cl_Book T.M_Book_seen (ok_Book_seen T) (hr.mono (by decide)) T.B_Book_seen .nil catch_tr (pa_cons (pv 1) (pa_cons (pv 2) (pa_cons (pv 3) pa_nil (star_ok rfl)) (star_ok rfl)) (star_ok rfl)))))) ⟨rfl, rfl⟩ rfl T.m_ForetellError (fun pn x => (pss_one (ps_set (i := 4) sc__law_refused.nd rfl (Or.inl rfl) (pe_lst (pa_cons (pe_callB (id := "isinstance") (r := rIsX K) call_isX rfl T.z_isinstance (by decide +kernel) (pa_cons (pv 5) (pa_cons (pe_gref rfl T.m_NoBit) pa_nil (star_ok rfl)) (star_ok rfl))) (pa_cons (pe_callB (id := "isinstance") (r := rIsX K) call_isX rfl T.z_isinstance (by decide +kernel) (pa_cons (pv 5) (pa_cons (pe_bty (T := "ValueError") rfl T.z_ValueError (by decide +kernel)) pa_nil (star_ok rfl)) (star_ok rfl))) (pa_cons (pe_callB (id := "isinstance") (r := rIsX K) call_isX rfl T.z_isinstance (by decide +kernel) (pa_cons (pv 5) (pa_cons (pe_gref rfl T.m_NoText) pa_nil (star_ok rfl)) (star_ok rfl))) pa_nil (star_ok rfl)) (star_ok rfl)) (star_ok rfl)))))) sc__law_refused.nd rfl rfl) (pss_one (ps_ret (pe_cmpR (op_eqDs (K := K) rfl hr.units) (pv 4) (pe_lst (pa_cons pe_bl (pa_cons pe_bl (pa_cons pe_bl pa_nil (star_ok rfl)) (star_ok rfl)) (star_ok rfl))) (nomark _)))))), ?_⟩
    try dsimp only [cxOf]
    refine i_start (σ' := [some _, some _, some _, some _, none, none]) rfl ?_
    walk_at "rd"
    refine ⟨by walk_at "len", fun l0 hl0 => ?_⟩
    with_reducible first | refine new_obj2 hl0 fun H1 S1 hl1 => ?_ | refine new_obj hl0 fun H1 S1 hl1 => ?_
    have hb1 := hb.same S1
    have hme1 := hb1.me
    walk_at "rd"
    refine ⟨p, dx, lk, d, sl, kd, f, O, m, ps, sg, nd, x, n, rfl, hb1, hm, hl.same S1, S1.seq hs, tysame S1 ty, fun _ => ?_, fun b e b0 b1 => ?_⟩
    · refine i_exT T.em_NoBit_ForetellError fun e he => ?_
      dsimp only [List.set]
      with_reducible first | refine new_obj2 he fun H2 S2 e2 => ?_ | refine new_obj he fun H2 S2 e2 => ?_
      walk_at "rd"
      refine i_isXr e2 T.x_NoBit T.ki_NoBit_NoBit ?_
      walk_at "rd"
      refine i_isXt e2 T.x_NoBit T.ki_NoBit_ValueError ?_
      walk_at "rd"
      refine i_isXr e2 T.x_NoBit T.ki_NoBit_NoText ?_
      walk_at "rd"
      refine ⟨by walk_at "len", fun r h => ?_⟩
      with_reducible first | refine new_obj2 h fun H3 S3 e3 => ?_ | refine new_obj h fun H3 S3 e3 => ?_
      walk_at "rd"
      refine ⟨by walk_at "len", fun r' h' => ?_⟩
      with_reducible first | refine new_obj2 h' fun H4 S4 e4 => ?_ | refine new_obj h' fun H4 S4 e4 => ?_
      refine i_eqLB [true, true, false] [true, true, false] (SqL.of (S4 _ _ e3)) (SqL.of e4) ?_
      rw [decide_eq_true rfl]
      exact k _ (S1.trans (S2.trans (S3.trans S4)))
    · exfalso
      rw [e, bit_of b0 b1] at hx
      cases hx
theorem sc__law_walked : FnScope ["_law_looks", "_law_decisions_here", "_law_at", "_law_odd", "_law_books", "_law_seen_here", "_law_rows", "_law_k", "_law_signs", "_law_node", "_law_bit", "_law_j", "_law_here"] ["_law_looks", "_law_decisions_here", "_law_at", "_law_odd"] (defScope s__law_walked) := ⟨rfl, rfl, rfl, by decide +kernel, rfl, by decide +kernel, by decide +kernel⟩
theorem two_at (x : Nat → Addr) {j : Nat} (h : j < 2) : atI [V.ref (x 0), V.ref (x 1)] ((j : Nat) : Int) = some (V.ref (x j)) := by
  obtain rfl | rfl : j = 0 ∨ j = 1 := by omega
  · rfl
  · rfl
theorem BkAt.mono {a : Ads} {H : Hp} {p dx lk d : Addr} {kd : Fin 3} {f : List Int → Option Slt} {O : Addr → Prop} {m m' : Nat} (h : BkAt a H p dx lk d kd f O m) (hm : m ≤ m') : BkAt a H p dx lk d kd f O m' := by
  obtain ⟨kvs, loc, h1, h2, h3⟩ := h.tb
  exact ⟨h.me, h.own, h.np, h.dO, kvs, loc, h1, Nat.le_trans h2 hm, h3⟩
/-- the two books, the law's two dicts, the two rows -/
structure Wk (K : PySem.W.Frag) (a : Ads) (B G : Hp) (bk dx lk dd ed rw : Nat → Addr) (kd : Nat → Fin 3) (m : Nat) (f : Nat → List Int → Option Slt) (O : Nat → Addr → Prop) (g : Nat → List Int → Option S5) : Prop where
  b : ∀ j, j < 2 → BkAt a G (bk j) (dx j) (lk j) (dd j) (kd j) (f j) (O j) m
  l : ∀ j, j < 2 → LwAt G (ed j) (g j) m (fun c => c = rw 0 ∨ c = rw 1)
  ag : ∀ j, j < 2 → Agr (kd j) (f j) (g j)
  r : ∀ j, j < 2 → ∃ sg : List Int, G (rw j) = some (.lst (sg.map V.int))
  dj : ∀ i j c, i < 2 → j < 2 → i ≠ j → O i c → ¬ O j c
  nb : ∀ i j, i < 2 → j < 2 → ¬ O i (bk j)
  ne : ∀ i j, i < 2 → j < 2 → ¬ O i (ed j)
  ls : ∀ c xs, B c = some (.lst xs) → c ≠ rw 0 → c ≠ rw 1 → G c = some (.lst xs)
  tp : ∀ t xs, SqT K B t xs → SqT K G t xs
section
variable {K : PySem.W.Frag} {a : Ads} {B G G' : Hp} {bk dx lk dd ed rw' : Nat → Addr} {kd : Nat → Fin 3} {m : Nat} {f : Nat → List Int → Option Slt} {O : Nat → Addr → Prop} {g : Nat → List Int → Option S5}
theorem Wk.same (h : Wk K a B G bk dx lk dd ed rw' kd m f O g) (S : Same G G') : Wk K a B G' bk dx lk dd ed rw' kd m f O g :=
  ⟨fun j hj => (h.b j hj).same S, fun j hj => (h.l j hj).mv (Nat.le_refl _) (fun _ e => S _ _ e) (fun _ _ _ e => S _ _ e), h.ag, fun j hj => let ⟨sg, e⟩ := h.r j hj; ⟨sg, S _ _ e⟩, h.dj, h.nb, h.ne, fun c xs e n1 n2 => S _ _ (h.ls c xs e n1 n2), fun t xs e => S.tup (h.tp t xs e)⟩
theorem Wk.mono (h : Wk K a B G bk dx lk dd ed rw' kd m f O g) {m' : Nat} (hm : m ≤ m') : Wk K a B G bk dx lk dd ed rw' kd m' f O g :=
  ⟨fun j hj => (h.b j hj).mono hm, fun j hj => (h.l j hj).mv hm (fun _ e => e) (fun _ _ _ e => e), h.ag, h.r, h.dj, h.nb, h.ne, h.ls, h.tp⟩
theorem sqT_upd {t c : Addr} {xs ys zs : List V} (hc : G c = some (.lst ys)) (e : SqT K G t xs) : SqT K (upd G c (.lst zs)) t xs := by
  rcases e with (e | ⟨o, e⟩) | e
  · exact .inl (.inl (upd_oth (ne_of e hc (by intro z; cases z)) e))
  · exact .inl (.inr ⟨o, upd_oth (ne_of e hc (by intro z; cases z)) e⟩)
  · exact .inr e
/-- a row is filled anew -/
theorem Wk.row (h : Wk K a B G bk dx lk dd ed rw' kd m f O g) {j : Nat} (hj : j < 2) (sg : List Int) (hne : rw' 0 ≠ rw' 1) : Wk K a B (upd G (rw' j) (.lst (sg.map V.int))) bk dx lk dd ed rw' kd m f O g := by
  obtain ⟨sg0, hr⟩ := h.r j hj
  have hin : rw' j = rw' 0 ∨ rw' j = rw' 1 := by
    obtain rfl | rfl : j = 0 ∨ j = 1 := by omega
    · exact .inl rfl
    · exact .inr rfl
  refine ⟨fun i hi => ?_, fun i hi => (h.l i hi).mv (Nat.le_refl _) (fun _ e => upd_oth (ne_of e hr (by intro z; cases z)) e) (fun b xs nb e => upd_oth (fun z => nb (by rw [z]; exact hin)) e), h.ag, fun i hi => ?_, h.dj, h.nb, h.ne, fun c xs e n1 n2 => upd_oth (fun z => ?_) (h.ls c xs e n1 n2), fun t xs e => sqT_upd hr (h.tp t xs e)⟩
  · refine (h.b i hi).frame (O2 := fun c => c = rw' j) (fun b o e n => upd_oth n e) (fun b hb z => ?_) fun z => ?_
    · obtain ⟨o, ho, hi'⟩ := (h.b i hi).own b hb
      rw [show b = rw' j from z, hr] at ho
      cases ho
      cases hi'
    · have hm := (h.b i hi).me
      rw [show bk i = rw' j from z, hr] at hm
      cases hm
  · by_cases z : rw' i = rw' j
    · exact ⟨sg, by rw [z]; exact upd_same⟩
    · obtain ⟨sg', e⟩ := h.r i hi
      exact ⟨sg', upd_oth z e⟩
  · rcases hin with w | w
    · exact n1 (z.trans w)
    · exact n2 (z.trans w)
/-- a book has seen a bit -/
theorem Wk.saw (h : Wk K a B G bk dx lk dd ed rw' kd m f O g) {j : Nat} (hj : j < 2) {f' : List Int → Option Slt} {O' : Addr → Prop} (hb : BkAt a G' (bk j) (dx j) (lk j) (dd j) (kd j) f' O' (m + 1)) (hO : ∀ c, O' c → O j c ∨ G c = none) (Bt : ButO (O j) G G') :
    (∀ i, i < 2 → BkAt a G' (bk i) (dx i) (lk i) (dd i) (kd i) (if i = j then f' else f i) (if i = j then O' else O i) (m + 1)) ∧ (∀ i, i < 2 → LwAt G' (ed i) (g i) m (fun c => c = rw' 0 ∨ c = rw' 1)) ∧ (∀ i, i < 2 → ∃ sg : List Int, G' (rw' i) = some (.lst (sg.map V.int))) ∧
    (∀ i l c, i < 2 → l < 2 → i ≠ l → (if i = j then O' else O i) c → ¬ (if l = j then O' else O l) c) ∧ (∀ i l, i < 2 → l < 2 → ¬ (if i = j then O' else O i) (bk l)) ∧ (∀ i l, i < 2 → l < 2 → ¬ (if i = j then O' else O i) (ed l)) ∧
    (∀ c xs, B c = some (.lst xs) → c ≠ rw' 0 → c ≠ rw' 1 → G' c = some (.lst xs)) ∧ (∀ t xs, SqT K B t xs → SqT K G' t xs) := by
  have hbj := h.b j hj
  refine ⟨fun i hi => ?_, fun i hi => ?_, fun i hi => ?_, fun i l c hi hl hil e1 e2 => ?_, fun i l hi hl e => ?_, fun i l hi hl e => ?_, fun c xs e n1 n2 => hbj.lst Bt (h.ls c xs e n1 n2), fun t xs e => hbj.seq Bt (h.tp t xs e)⟩
  · by_cases z : i = j
    · subst z
      rw [if_pos rfl, if_pos rfl]
      exact hb
    · rw [if_neg z, if_neg z]
      exact ((h.b i hi).frame Bt (fun b hb' => h.dj i j b hi hj z hb') (h.nb j i hj hi)).mono (Nat.le_succ _)
  · exact (h.l i hi).mv (Nat.le_refl _) (fun kvs e => Bt _ _ e (h.ne j i hj hi)) (fun b xs _ e => hbj.lst Bt e)
  · obtain ⟨sg, e⟩ := h.r i hi
    exact ⟨sg, hbj.lst Bt e⟩
  · have live : ∀ q, q < 2 → q ≠ j → O q c → ¬ O' c := fun q hq hqj w w' => by
      rcases hO c w' with v | v
      · exact h.dj q j c hq hj hqj w v
      · obtain ⟨o, ho, _⟩ := (h.b q hq).own c w
        rw [v] at ho
        cases ho
    by_cases z1 : i = j
    · rw [if_pos z1] at e1
      have z2 : l ≠ j := fun w => hil (z1.trans w.symm)
      rw [if_neg z2] at e2
      exact live l hl z2 e2 e1
    · rw [if_neg z1] at e1
      by_cases z2 : l = j
      · rw [if_pos z2] at e2
        exact live i hi z1 e1 e2
      · rw [if_neg z2] at e2
        exact h.dj i l c hi hl hil e1 e2
  · by_cases z : i = j
    · rw [if_pos z] at e
      rcases hO _ e with v | v
      · exact h.nb j l hj hl v
      · rw [(h.b l hl).me] at v
        cases v
    · rw [if_neg z] at e
      exact h.nb i l hi hl e
  · by_cases z : i = j
    · rw [if_pos z] at e
      rcases hO _ e with v | v
      · exact h.ne j l hj hl v
      · obtain ⟨kvs, q, _⟩ := h.l l hl
        rw [q] at v
        cases v
    · rw [if_neg z] at e
      exact h.ne i l hi hl e
end
def sp_lwalked (K : PySem.W.Frag) : Sp := fun vs H Q _ => ∃ (L F : Addr) (at' : Int) (odd : V) (n : String) (lk : Nat → Addr) (kd : Nat → Fin 3) (ps : Nat → List Int), vs = [.ref L, .ref F, .int at', odd] ∧ H L = some (.lst [.ref (lk 0), .ref (lk 1)]) ∧ (∀ j, j < 2 → LookAt K H (lk j) (.str (kdS (kd j))) (ps j)) ∧ FdAt H F 1000 ∧ bitV odd = false ∧ (∀ G : Hp, (∀ b xs, H b = some (.lst xs) → G b = some (.lst xs)) → TyOf K G odd (.type n)) ∧ ∀ H', Q (.bl true) H'
theorem ok__law_walked (T : Txt K mg a) : FnOk P w K mg base CX0 7 a.f__law_walked a.d__law_walked ["_law_looks", "_law_decisions_here", "_law_at", "_law_odd"] (sp_lwalked K) := by
  refine T.F__law_walked.ok sc__law_walked (fun vs H Q E h => ?_) (fun cdv A outer s H vs Q E hr h => ?_)
  · obtain ⟨L, F, at', odd, n, lk, kd, ps, rfl, _⟩ := h
    rfl
  · obtain ⟨L, F, at', odd, n, lk, kd, ps, rfl, hL, hlk, ⟨ts, hF, htn, htd⟩, hodd, hty, k⟩ := h
    refine blk_cons (ps_set (i := 4) sc__law_walked.nd rfl (Or.inl rfl) (pe_lst (pa_cons (pe_make T.k_Book (ok_Book___init__ T) (hr.mono (by decide)) rfl T.m_Book T.B_Book___init__ .nil pass0 (pa_cons (pe_ix ix_list (pv 0) pe_int (fun _ _ => rfl)) pa_nil (star_ok rfl))) (pa_cons (pe_make T.k_Book (ok_Book___init__ T) (hr.mono (by decide)) rfl T.m_Book T.B_Book___init__ .nil pass0 (pa_cons (pe_ix ix_list (pv 0) pe_int (fun _ _ => rfl)) pa_nil (star_ok rfl))) pa_nil (star_ok rfl)) (star_ok rfl)))) ?_
    refine blk_cons (ps_set (i := 5) sc__law_walked.nd rfl (Or.inl rfl) (pe_q (qe_lst (qa_cons (qe_of pe_dnewT) (qa_cons (qe_of pe_dnewT) qa_nil rfl) rfl)))) ?_
    refine blk_cons (ps_set (i := 6) sc__law_walked.nd rfl (Or.inl rfl) (pe_lst (pa_cons (pe_lst pa_nil) (pa_cons (pe_lst pa_nil) pa_nil (star_ok rfl)) (star_ok rfl)))) ?_
    refine blk_cons (ps_for PassesOwn.never rfl (pi_enum rfl T.z_enumerate (pa_cons (pv 1) pa_nil (star_ok rfl))) (pg_tup rfl (pgs_cons (pg_name (i := 7) sc__law_walked.nd rfl (Or.inl rfl)) (pgs_cons (pg_tup rfl (pgs_cons (pg_name (i := 8) sc__law_walked.nd rfl (Or.inl rfl)) (pgs_cons (pg_name (i := 9) sc__law_walked.nd rfl (Or.inl rfl)) (pgs_cons (pg_name (i := 10) sc__law_walked.nd rfl (Or.inl rfl)) pgs_nil)))) pgs_nil))) (pss_one (ps_for PassesOwn.never rfl (pi_range1 rfl T.z_range (pa_cons pe_int pa_nil (star_ok rfl))) (pg_name (i := 11) sc__law_walked.nd rfl (Or.inl rfl)) (pss_one (ps_if (PW.pt (pw_or (pt_cmpR op_eq (pv 11) pe_int (nomark _)) (pw_or1 (pt_cmpR op_eq (pe_op op_mod (pe_callB call_len_seq rfl T.z_len (by decide +kernel) (pa_cons (pv 8) pa_nil (star_ok rfl))) pe_int) pe_int (nomark _))))) (pss_cons (ps_expr (pe_bm0 PySem.F.plainAttrs_list PySem.F.slot_list_clear PySem.F.type_list_clear mt_clear (pe_ix ix_list (pv 6) (pv 11) (fun _ _ => rfl)))) (pss_cons (ps_expr (pe_bm PySem.F.plainAttrs_list PySem.F.slot_list_extend PySem.F.type_list_extend mt_extend (pe_ix ix_list (pv 6) (pv 11) (fun _ _ => rfl)) (pa_cons (pv 8) pa_nil (star_ok rfl)))) (pss_cons (ps_if (pt_not (pt_val (pe_call (ok__law_right T) (hr.mono (by decide)) rfl T.m__law_right T.F__law_right.kp T.B__law_right .nil pass0 (pa_cons (pe_ix ix_list (pv 4) (pv 11) (fun _ _ => rfl)) (pa_cons (pe_ix ix_list (pv 0) (pv 11) (fun _ _ => rfl)) (pa_cons (pe_ix ix_list (pv 5) (pv 11) (fun _ _ => rfl)) (pa_cons (pe_ix ix_list (pv 6) (pv 11) (fun _ _ => rfl)) (pa_cons (pv 9) pa_nil (star_ok rfl)) (star_ok rfl)) (star_ok rfl)) (star_ok rfl)) (star_ok rfl))))) (pss_one (ps_ret pe_bl)) pss_nil) (pss_cons (ps_mid (ps_if (PW.pt (pw_and (pt_cmpR op_eq (pv 7) (pv 2) (nomark _)) (pw_and1 (pt_not (pt_val (pe_call (ok__law_refused T) (hr.mono (by decide)) rfl T.m__law_refused T.F__law_refused.kp T.B__law_refused .nil pass0 (pa_cons (pe_ix ix_list (pv 4) (pv 11) (fun _ _ => rfl)) (pa_cons (pe_callTy call_list_of rfl T.z_list (by decide +kernel) (pa_cons (pv 8) pa_nil (star_ok rfl))) (pa_cons (pv 9) (pa_cons (pv 3) pa_nil (star_ok rfl)) (star_ok rfl)) (star_ok rfl)) (star_ok rfl)))))))) (pss_one (ps_ret pe_bl)) pss_nil)) (pss_cons (ps_if (pt_cmpR op_notN (pe_methE (pe_ix ix_list (pv 4) (pv 11) (fun _ _ => rfl)) T.cl_Book T.M_Book_seen (ok_Book_seen T) (hr.mono (by decide)) T.B_Book_seen .nil catch_no (pa_cons (pe_ix ix_list (pv 6) (pv 11) (fun _ _ => rfl)) (pa_cons (pv 9) (pa_cons (pv 10) pa_nil (star_ok rfl)) (star_ok rfl)) (star_ok rfl))) pe_non (nomark _)) (pss_one (ps_ret pe_bl)) pss_nil) (pss_cons (ps_set (i := 12) sc__law_walked.nd rfl (Or.inl rfl) (pe_call (ok__law_context T) (hr.mono (by decide)) rfl T.m__law_context T.F__law_context.kp T.B__law_context .nil pass0 (pa_cons (pe_ix ix_list (pv 0) (pv 11) (fun _ _ => rfl)) (pa_cons (pv 8) (pa_cons (pv 9) pa_nil (star_ok rfl)) (star_ok rfl)) (star_ok rfl)))) (pss_one (ps_dput (hu_of hr) (pe_ix ix_list (pv 5) (pv 11) (fun _ _ => rfl)) (pv 12) (pe_call (ok__law_seen T) (hr.mono (by decide)) rfl T.m__law_seen T.F__law_seen.kp T.B__law_seen .nil pass0 (pa_cons (pe_dget2 (hu_of hr) (pe_ix ix_list (pv 5) (pv 11) (fun _ _ => rfl)) (pv 12) (pe_lst (pa_cons pe_int (pa_cons pe_int (pa_cons pe_int (pa_cons pe_int (pa_cons pe_int pa_nil (star_ok rfl)) (star_ok rfl)) (star_ok rfl)) (star_ok rfl)) (star_ok rfl))) ⟨rfl, rfl, rfl, rfl⟩) (pa_cons (pv 10) pa_nil (star_ok rfl)) (star_ok rfl))) rfl)))))))) pss_nil))))) ?_
    refine ⟨_, (pss_one (ps_ret pe_bl)), ?_⟩
    try dsimp only [cxOf]
    refine i_start (σ' := [some _, some _, some _, some _, none, none, none, none, none, none, none, none, none]) rfl ?_
    walk_at "rd"
    refine i_ixL (SqL.of hL) (atI_nat (j := 0) rfl) ?_
    walk_at "rd"
    intro p0 dx0 np0 ndx0 ne0
    refine ⟨p0, dx0, lk 0, kd 0, rfl, upd_same, fun d0 H1 hd00 hb0 B1 => ⟨rfl, ?_⟩⟩
    have S1 : Same H H1 := fun b o e => B1 b o (by rw [upd_ne (ne_of_none e np0), upd_ne (ne_of_none e ndx0)]; exact e) (ne_of_none e np0)
    walk_at "rd"
    refine i_ixL (SqL.of (S1 _ _ hL)) (atI_nat (j := 1) rfl) ?_
    walk_at "rd"
    intro p1 dx1 np1 ndx1 ne1
    refine ⟨p1, dx1, lk 1, kd 1, rfl, upd_same, fun d1 H2 hd10 hb1 B2 => ⟨rfl, ?_⟩⟩
    have S2 : Same H1 H2 := fun b o e => B2 b o (by rw [upd_ne (ne_of_none e np1), upd_ne (ne_of_none e ndx1)]; exact e) (ne_of_none e np1)
    have hd1' : H1 d1 = none := by
      cases e : H1 d1 with
      | none => rfl
      | some o =>
        have := upd_new (o' := HO.ins a.C_Book dx1 []) (show upd H1 dx1 (.own p1) p1 = none by rw [upd_ne ne1.symm]; exact np1) (upd_new (o' := HO.own p1) ndx1 e)
        rw [this] at hd10
        cases hd10
    walk_at "rd"
    refine ⟨by walk_at "len", fun bl hbl => ?_⟩
    with_reducible first | refine new_obj2 hbl fun H3 S3 hbl3 => ?_ | refine new_obj hbl fun H3 S3 hbl3 => ?_
    walk_at "rd"
    intro e0 he00
    with_reducible first | refine new_obj2 he00 fun H4 S4 he04 => ?_ | refine new_obj he00 fun H4 S4 he04 => ?_
    walk_at "rd"
    intro e1 he10
    with_reducible first | refine new_obj2 he10 fun H5 S5 he15 => ?_ | refine new_obj he10 fun H5 S5 he15 => ?_
    walk_at "rd"
    refine ⟨by walk_at "len", fun el hel => ?_⟩
    with_reducible first | refine new_obj2 hel fun H6 S6 hel6 => ?_ | refine new_obj hel fun H6 S6 hel6 => ?_
    walk_at "rd"
    refine ⟨by walk_at "len", fun r0 hr00 => ?_⟩
    with_reducible first | refine new_obj2 hr00 fun H7 S7 hr07 => ?_ | refine new_obj hr00 fun H7 S7 hr07 => ?_
    walk_at "rd"
    refine ⟨by walk_at "len", fun r1 hr10 => ?_⟩
    with_reducible first | refine new_obj2 hr10 fun H8 S8 hr18 => ?_ | refine new_obj hr10 fun H8 S8 hr18 => ?_
    walk_at "rd"
    refine ⟨by walk_at "len", fun rl hrl => ?_⟩
    with_reducible first | refine new_obj2 hrl fun H9 S9 hrl9 => ?_ | refine new_obj hrl fun H9 S9 hrl9 => ?_
    walk_at "rd"
    have S29 := S3.trans (S4.trans (S5.trans (S6.trans (S7.trans (S8.trans S9)))))
    have S09 := S1.trans (S2.trans S29)
    -- the addresses
    have hb09 := hb0.same (S2.trans S29)
    have hb19 := hb1.same S29
    have hH2p0 : H2 p0 = some (.ins a.C_Book dx0 (F_Book (.ref (lk 0)) (.ref d0))) := S2 _ _ hb0.me
    obtain ⟨kv0, lc0, hdd0, _⟩ := hb0.tb
    obtain ⟨kv1, lc1, hdd1, _⟩ := hb1.tb
    have x1 : p0 ≠ d0 := fun z => hb0.np z
    have x2 : p1 ≠ d1 := fun z => hb1.np z
    have x3 : d0 ≠ d1 := ne_of_none hdd0 hd1'
    have x4 : p1 ≠ d0 := fun z => by rw [z] at np1; rw [np1] at hdd0; cases hdd0
    have x5 : p0 ≠ d1 := ne_of_none hb0.me hd1'
    have hH3 : ∀ {c o}, H2 c = some o → H3 c = some o := fun e => S3 _ _ e
    have y0 : e0 ≠ d0 := fun z => by rw [z, S3 _ _ (S2 _ _ hdd0)] at he00; cases he00
    have y1 : e0 ≠ d1 := fun z => by rw [z, S3 _ _ hdd1] at he00; cases he00
    have y2 : e1 ≠ d0 := fun z => by rw [z, S4 _ _ (S3 _ _ (S2 _ _ hdd0))] at he10; cases he10
    have y3 : e1 ≠ d1 := fun z => by rw [z, S4 _ _ (S3 _ _ hdd1)] at he10; cases he10
    have z0 : r0 ≠ r1 := ne_of_none hr07 hr10
    let bk : Nat → Addr := fun j => if j = 0 then p0 else p1
    let dx : Nat → Addr := fun j => if j = 0 then dx0 else dx1
    let dd : Nat → Addr := fun j => if j = 0 then d0 else d1
    let ed : Nat → Addr := fun j => if j = 0 then e0 else e1
    let rw' : Nat → Addr := fun j => if j = 0 then r0 else r1
    have hbk : H9 bl = some (.lst [.ref (bk 0), .ref (bk 1)]) := (S4.trans (S5.trans (S6.trans (S7.trans (S8.trans S9))))) _ _ hbl3
    have hed : H9 el = some (.lst [.ref (ed 0), .ref (ed 1)]) := (S7.trans (S8.trans S9)) _ _ hel6
    have hrw : H9 rl = some (.lst [.ref (rw' 0), .ref (rw' 1)]) := hrl9
    have two : ∀ {P : Nat → Prop}, P 0 → P 1 → ∀ j, j < 2 → P j := fun {P} q0 q1 j hj => by
      obtain rfl | rfl : j = 0 ∨ j = 1 := by omega
      · exact q0
      · exact q1
    have W0 : Wk K a H9 H9 bk dx lk dd ed rw' kd 0 (fun _ _ => none) (fun j c => c = dd j) (fun _ _ => none) := {
      b := two hb09 hb19
      l := two ⟨[], (S5.trans (S6.trans (S7.trans (S8.trans S9)))) _ _ he04, Nat.le_refl _, fun _ _ => rfl, fun _ _ z => (nomatch z)⟩ ⟨[], (S6.trans (S7.trans (S8.trans S9))) _ _ he15, Nat.le_refl _, fun _ _ => rfl, fun _ _ z => (nomatch z)⟩
      ag := fun _ _ _ => .inl ⟨rfl, rfl⟩
      r := two ⟨[], (S8.trans S9) _ _ hr07⟩ ⟨[], S9 _ _ hr18⟩
      dj := fun i j c hi hj hij e1 e2 => by
        obtain rfl | rfl : i = 0 ∨ i = 1 := by omega
        · obtain rfl : j = 1 := by omega
          exact x3 (e1.symm.trans e2)
        · obtain rfl : j = 0 := by omega
          exact x3 (e2.symm.trans e1)
      nb := fun i j hi hj => by
        obtain rfl | rfl : i = 0 ∨ i = 1 := by omega
        · obtain rfl | rfl : j = 0 ∨ j = 1 := by omega
          · exact x1
          · exact x4
        · obtain rfl | rfl : j = 0 ∨ j = 1 := by omega
          · exact x5
          · exact x2
      ne := fun i j hi hj => by
        obtain rfl | rfl : i = 0 ∨ i = 1 := by omega
        · obtain rfl | rfl : j = 0 ∨ j = 1 := by omega
          · exact y0
          · exact y2
        · obtain rfl | rfl : j = 0 ∨ j = 1 := by omega
          · exact y1
          · exact y3
      ls := fun c xs h _ _ => h
      tp := fun t xs h => h }
    have nr : ∀ {c o}, H c = some o → c ≠ rw' 0 ∧ c ≠ rw' 1 := fun {c o} e => ⟨ne_of_none ((S1.trans (S2.trans (S3.trans (S4.trans (S5.trans S6))))) _ _ e) hr00, ne_of_none ((S1.trans (S2.trans (S3.trans (S4.trans (S5.trans (S6.trans S7)))))) _ _ e) hr10⟩
    have hee : e0 ≠ e1 := ne_of_none he04 he10
    have hF9 := S09 _ _ hF
    have hnrF := nr hF
    have hL9 := S09 _ _ hL
    have hnrL := nr hL
    have nrb : bl ≠ rw' 0 ∧ bl ≠ rw' 1 := ⟨ne_of_none ((S4.trans (S5.trans S6)) _ _ hbl3) hr00, ne_of_none ((S4.trans (S5.trans (S6.trans S7))) _ _ hbl3) hr10⟩
    have nre : el ≠ rw' 0 ∧ el ≠ rw' 1 := ⟨ne_of_none hel6 hr00, ne_of_none (S7 _ _ hel6) hr10⟩
    have nrr : rl ≠ rw' 0 ∧ rl ≠ rw' 1 := ⟨(fun z => by rw [z] at hrl; rw [show rw' 0 = r0 from rfl, S8 _ _ hr07] at hrl; cases hrl), (fun z => by rw [z] at hrl; rw [show rw' 1 = r1 from rfl, hr18] at hrl; cases hrl)⟩
    have zrr : rw' 0 ≠ rw' 1 := z0
    have hed2 : ed 0 ≠ ed 1 := hee
    clear_value bk dx dd ed rw'
    refine ⟨F, rfl, ⟨_, SqL.of hF9⟩, for_enum (K := K) (a := F) (xs := ts.map V.ref) (fun i σ2 G => ∃ (f : Nat → List Int → Option Slt) (O : Nat → Addr → Prop) (g : Nat → List Int → Option Law.S5) (v7 v8 v9 v10 v11 v12 : Option V), σ2 = [some (.ref L), some (.ref F), some (.int at'), some odd, some (.ref bl), some (.ref el), some (.ref rl), v7, v8, v9, v10, v11, v12] ∧ Wk K a H9 G bk dx lk dd ed rw' kd (2 * i) f O g)
      ⟨_, _, _, _, _, _, _, _, _, rfl, W0⟩ (fun i σ2 G _ ⟨_, _, _, _, _, _, _, _, _, _, w⟩ => SqL.of (w.ls _ _ hF9 hnrF.1 hnrF.2)) ?_ ?_⟩
    · rintro i y σ2 G tt hi ⟨f, O, g, v7, v8, v9, v10, v11, v12, rfl, W⟩ htt
      obtain ⟨t, rfl, htm⟩ : ∃ t, y = V.ref t ∧ t ∈ ts := by
        obtain ⟨t, ht, rfl⟩ := List.mem_map.mp (List.mem_of_getElem? hi)
        exact ⟨t, rfl, ht⟩
      have hil : i < ts.length := by
        rcases Nat.lt_or_ge i ts.length with q | q
        · exact q
        · rw [List.getElem?_eq_none (by rw [List.length_map]; exact q)] at hi; cases hi
      obtain ⟨sl, sg, nd, b, q1, q2, _, hsz, b0, b1⟩ := htd t htm
      have hnrs := nr q2
      have hsl9 := S09 _ _ q2
      with_reducible first | refine new_obj2 htt fun G1 T1 htt1 => ?_ | refine new_obj htt fun G1 T1 htt1 => ?_
      have W1 := W.same T1
      refine i_gTup (SqT.of htt1) rfl ?_
      walk_at "rd"
      refine i_gTup (W1.tp _ _ (SqT.of (S09 _ _ q1))) rfl ?_
      walk_at "rd"
      refine ⟨_, rfl, by decide, by decide, for_range (n := 2) (fun j σ2 G => ∃ (f : Nat → List Int → Option Slt) (O : Nat → Addr → Prop) (g : Nat → List Int → Option Law.S5) (v11 v12 : Option V), σ2 = [some (.ref L), some (.ref F), some (.int at'), some odd, some (.ref bl), some (.ref el), some (.ref rl), some (.int i), some (.ref sl), some (.int nd), some (.int b), v11, v12] ∧ Wk K a H9 G bk dx lk dd ed rw' kd (2 * i + j) f O g)
        ⟨f, O, g, _, _, rfl, W1⟩ ?_ ?_⟩
      · rintro j σ3 G2 hj ⟨f, O, g, v11, v12, rfl, W⟩
        have e0' : (0 : Int) + (j : Int) = (j : Nat) := by omega
        rw [e0']
        have hslG := W.ls _ _ hsl9 hnrs.1 hnrs.2
        walk_at "rd"
        refine (fun hbody => iteD (fun _ => hbody) (fun hj0 => ?_)) ?_
        · walk_at "rd"
          refine i_len (SqL.of hslG) ?_
          walk_at "rd"
          refine iteD (fun _ => ?_) (fun _ => ?_)
          · rw [if_pos rfl] at hbody
            exact hbody
          · walk_at "rd"
            exact ⟨f, O, g, _, _, rfl, W.mono (by omega)⟩
        refine iteT ?_
        obtain ⟨sgr, hrG⟩ := W.r j hj
        have hrlG := W.ls _ _ hrw nrr.1 nrr.2
        walk_at "rd"
        refine i_ixL (SqL.of hrlG) (two_at rw' hj) ?_
        refine i_tyL hrG ?_
        refine ⟨rw' j, _, rfl, rfl, hrG, ?_⟩
        walk_at "rd"
        have hrl2 : upd G2 (rw' j) (.lst []) rl = some (.lst [.ref (rw' 0), .ref (rw' 1)]) := upd_oth (by
          obtain rfl | rfl : j = 0 ∨ j = 1 := by omega
          · exact nrr.1
          · exact nrr.2) hrlG
        refine i_ixL (SqL.of hrl2) (two_at rw' hj) ?_
        refine i_tyL upd_same ?_
        walk_at "rd"
        refine ⟨rw' j, sl, _, _, rfl, rfl, upd_same, upd_oth (by
          obtain rfl | rfl : j = 0 ∨ j = 1 := by omega
          · exact hnrs.1
          · exact hnrs.2) hslG, line_le (by rw [List.length_map]; show 0 + _ ≤ _; omega), ?_⟩
        rw [upd_upd]
        have W2 : Wk K a H9 (upd G2 (rw' j) (.lst ([] ++ sg.map V.int))) bk dx lk dd ed rw' kd (2 * i + j) f O g := W.row hj sg zrr
        have hr2 : upd G2 (rw' j) (.lst ([] ++ sg.map V.int)) (rw' j) = some (.lst (sg.map V.int)) := upd_same
        generalize upd G2 (rw' j) (.lst ([] ++ sg.map V.int)) = G3 at W2 hr2 ⊢
        have go : ∀ {G : Hp} {f O g m}, Wk K a H9 G bk dx lk dd ed rw' kd m f O g → LookAt K G (lk j) (.str (kdS (kd j))) (ps j) := fun w => ((hlk j hj).same S09).mv w.tp
        have hbl3' := W2.ls _ _ hbk nrb.1 nrb.2
        have hel3' := W2.ls _ _ hed nre.1 nre.2
        have hrl3' := W2.ls _ _ hrw nrr.1 nrr.2
        have hL3' := W2.ls _ _ hL9 hnrL.1 hnrL.2
        walk_at "rd"
        refine i_ixL (SqL.of hbl3') (two_at bk hj) ?_
        walk_at "rd"
        refine i_ixL (SqL.of hL3') (two_at lk hj) ?_
        walk_at "rd"
        refine i_ixL (SqL.of hel3') (two_at ed hj) ?_
        walk_at "rd"
        refine i_ixL (SqL.of hrl3') (two_at rw' hj) ?_
        walk_at "rd"
        refine ⟨bk j, dx j, lk j, dd j, ed j, rw' j, kd j, f j, O j, _, _, _, g j, ps j, sg, nd, rfl, W2.b j hj, go W2, W2.l j hj, W2.ag j hj, hr2, by omega, fun G4 T4 => ?_⟩
        have W4 := W2.same T4
        have hr4 := T4 _ _ hr2
        walk_at "rd"
        refine i_mid (fun σ' G' => σ' = [some (.ref L), some (.ref F), some (.int at'), some odd, some (.ref bl), some (.ref el), some (.ref rl), some (.int i), some (.ref sl), some (.int nd), some (.int b), some (.int j), v12] ∧ Same G4 G') ?_ ?_
        · walk_at "rd"
          refine iteD (fun hk => ?_) (fun hk => ?_)
          · walk_at "rd"
            refine i_ixL (SqL.of (T4 _ _ hbl3')) (two_at bk hj) ?_
            walk_at "rd"
            refine i_listof (SqL.of (W4.ls _ _ hsl9 hnrs.1 hnrs.2)) fun hh hh0 => ?_
            with_reducible first | refine new_obj2 hh0 fun G5 T5 hh5 => ?_ | refine new_obj hh0 fun G5 T5 hh5 => ?_
            walk_at "rd"
            have W5 := W4.same T5
            refine ⟨bk j, dx j, lk j, dd j, hh, kd j, f j, O j, _, ps j, sg, nd, odd, n, rfl, W5.b j hj, by omega, go W5, SqL.of hh5, hty _ fun c xs e => W5.ls _ _ (S09 _ _ e) (nr e).1 (nr e).2, hodd, fun G6 T6 => ?_⟩
            walk_at "rd"
            exact ⟨rfl, T5.trans T6⟩
          · walk_at "rd"
            exact ⟨rfl, Same.refl _⟩
        rintro σ' G6 ⟨rfl, T6⟩
        have W6 := W4.same T6
        have hr6 := T6 _ _ hr4
        have hb6 := (W6.b j hj).me
        walk_at "rd"
        refine i_ixL (SqL.of (W6.ls _ _ hbk nrb.1 nrb.2)) (two_at bk hj) ?_
        walk_at "rd"
        refine i_ixL (SqL.of (W6.ls _ _ hrw nrr.1 nrr.2)) (two_at rw' hj) ?_
        walk_at "rd"
        refine ⟨bk j, dx j, lk j, dd j, rw' j, kd j, f j, O j, _, ps j, sg, nd, .int b, _, rfl, W6.b j hj, by omega, go W6, SqL.of hr6, .int b, (fun z => by rw [bit_of b0 b1] at z; cases z), fun b' hbb _ _ O' G7 hb7 hO7 B7 => ?_⟩
        obtain rfl : b = b' := V.int.inj hbb
        obtain ⟨u1, u2, u3, u4, u5, u6, u7, u8⟩ := W6.saw hj hb7 hO7 B7
        walk_at "rd"
        refine iteNp rfl ?_
        walk_at "rd"
        refine i_ixL (SqL.of (u7 _ _ hL9 hnrL.1 hnrL.2)) (two_at lk hj) ?_
        walk_at "rd"
        have hlk7 : LookAt K G7 (lk j) (.str (kdS (kd j))) (ps j) := ((hlk j hj).same S09).mv u8
        refine ⟨lk j, sl, _, ps j, sg, nd, rfl, hlk7, u7 _ _ hsl9 hnrs.1 hnrs.2, by omega, fun r G8 hr80 hr8 T8 => ?_⟩
        have hl8 := (u2 j hj).mv (Nat.le_refl _) (fun _ e => T8 _ _ e) (fun _ _ _ e => T8 _ _ e)
        have hel8 := T8 _ _ (u7 _ _ hed nre.1 nre.2)
        walk_at "rd"
        refine i_ixL (SqL.of hel8) (two_at ed hj) ?_
        have hl8' := hl8
        obtain ⟨kvs, q1', q2', q3', q4'⟩ := hl8'
        refine ⟨ed j, rfl, .inr ⟨kvs, .inl q1'⟩, ?_⟩
        walk_at "rd"
        refine ⟨by walk_at "len", fun dv hdv => ?_⟩
        have T9 := same_upd (o := (HO.lst [V.int 0, V.int 0, V.int 8388608, V.int 0, V.int 0])) hdv
        have hdv9 : upd G8 dv (HO.lst [V.int 0, V.int 0, V.int 8388608, V.int 0, V.int 0]) dv = some (HO.lst [V.int 0, V.int 0, V.int 8388608, V.int 0, V.int 0]) := upd_same
        generalize upd G8 dv (HO.lst [V.int 0, V.int 0, V.int 8388608, V.int 0, V.int 0]) = G9 at T9 hdv9 ⊢
        have hr9 : G9 r = some (.tup ((kI (ctx (ps j) sg nd)).map kV)) := by rw [kI_map]; exact T9 _ _ hr8
        refine ⟨_, DGet.t (T9 _ _ q1') hr9, ?_⟩
        have hst : ∃ r', (valV kvs (kI (ctx (ps j) sg nd))).getD (V.ref dv) = .ref r' ∧ G9 r' = some (.lst ((g j (ctx (ps j) sg nd)).getD s50).v) ∧ ((g j (ctx (ps j) sg nd)).getD s50).Ok := by
          cases hg : g j (ctx (ps j) sg nd) with
          | none =>
            rw [q3' _ hg]
            exact ⟨dv, rfl, hdv9, s50_ok⟩
          | some x =>
            obtain ⟨ok, r', w1, w2, _⟩ := q4' _ x hg
            rw [w1]
            exact ⟨r', rfl, T9 _ _ w2, ok⟩
        obtain ⟨r', w1, w2, w3⟩ := hst
        rw [w1]
        walk_at "rd"
        refine ⟨r', _, b, rfl, w2, w3, b0, b1, fun x' G10 hx0 hx10 T10 => ?_⟩
        have T910 := T9.trans T10
        have T810 := T8.trans T910
        walk_at "rd"
        refine i_ixL (SqL.of (T910 _ _ hel8)) (two_at ed hj) ?_
        walk_at "rd"
        have nrx : ¬ (x' = rw' 0 ∨ x' = rw' 1) := fun z => by
          have u3' := fun l hl => (let ⟨sg, e⟩ := u3 l hl; (⟨sg, (T8.trans T9) _ _ e⟩ : ∃ sg : List Int, G9 (rw' l) = some (HO.lst (sg.map V.int))))
          rcases z with z | z
          · obtain ⟨_, e⟩ := u3' 0 (by decide)
            rw [← z, hx0] at e
            cases e
          · obtain ⟨_, e⟩ := u3' 1 (by decide)
            rw [← z, hx0] at e
            cases e
        have hl10 := hl8.mv (Nat.le_refl _) (fun _ e => T910 _ _ e) (fun _ _ _ e => T910 _ _ e)
        obtain ⟨G11, hput, hl11, B11⟩ := hl10.put (by omega) (T910 _ _ hr8) hx10 nrx (see5_ok w3 b0 b1)
        refine ⟨ed j, G11, rfl, hput, ?_⟩
        have hdT := q1'
        have ned : ∀ l, l < 2 → l ≠ j → ed l ≠ ed j := fun l hl hlj => by
          obtain rfl | rfl : j = 0 ∨ j = 1 := by omega
          · obtain rfl : l = 1 := by omega
            exact hed2.symm
          · obtain rfl : l = 0 := by omega
            exact hed2
        have nkd : ∀ {c o}, G10 c = some o → (∀ kvs, o ≠ HO.dT kvs) → c ≠ ed j := fun {c o} e h z => by
          rw [z, T910 _ _ hdT] at e
          cases e
          exact h _ rfl
        refine ⟨fun l => if l = j then updF (f j) (ctx (ps j) sg nd) (((f j (ctx (ps j) sg nd)).getD (kd0 (kd j))).see b) else f l, fun l => if l = j then O' else O l, fun l => if l = j then updG (g j) (ctx (ps j) sg nd) (see5 ((g j (ctx (ps j) sg nd)).getD s50) b) else g l, _, _, rfl, ⟨fun l hl => ?_, fun l hl => ?_, fun l hl => ?_, fun l hl => ?_, u4, u5, u6, fun c xs e n1 n2 => ?_, fun tt xs e => ?_⟩⟩
        · refine ((u1 l hl).same T810).frame (O2 := fun c => c = ed j) (fun c o e ne => B11 c o e ne) (fun c hc z => ?_) fun z => ?_
          · have z : c = ed j := z
            exact u6 l j hl hj (z ▸ hc)
          · have hm := ((u1 l hl).same T810).me
            exact nkd hm (fun _ w => by cases w) z
        · by_cases z : l = j
          · subst z
            try dsimp only
            rw [if_pos rfl]
            exact hl11
          · try dsimp only
            rw [if_neg z]
            exact (u2 l hl).mv (Nat.le_succ _) (fun kvs e => B11 _ _ (T810 _ _ e) (ned l hl z)) (fun c xs _ e => B11 _ _ (T810 _ _ e) (nkd (T810 _ _ e) fun _ w => by cases w))
        · by_cases z : l = j
          · subst z
            try dsimp only
            rw [if_pos rfl, if_pos rfl]
            exact (W6.ag l hl).see (W6.l l hl).ok _ b0 b1
          · try dsimp only
            rw [if_neg z, if_neg z]
            exact W6.ag l hl
        · obtain ⟨sg', e⟩ := u3 l hl
          exact ⟨sg', B11 _ _ (T810 _ _ e) (nkd (T810 _ _ e) fun _ w => by cases w)⟩
        · have e' := T810 _ _ (u7 c xs e n1 n2)
          exact B11 _ _ e' (nkd e' fun _ w => by cases w)
        · rcases T810.tup (u8 tt xs e) with (w | ⟨o, w⟩) | w
          · exact .inl (.inl (B11 _ _ w (nkd w fun _ w => by cases w)))
          · exact .inl (.inr ⟨o, B11 _ _ w (nkd w fun _ w => by cases w)⟩)
          · exact .inr w
      · rintro σ3 G2 ⟨f, O, g, v11, v12, rfl, W⟩
        walk_at "rd"
        exact ⟨f, O, g, _, _, _, _, _, _, rfl, W⟩
    · rintro σ2 G ⟨f, O, g, v7, v8, v9, v10, v11, v12, rfl, W⟩
      walk_at "rd"
      exact k _
theorem sc__law_bits : FnScope ["_law_script", "_law_most", "_law_bits_here", "_law_k", "_law_cell", "_law_picked"] ["_law_script", "_law_most"] (defScope s__law_bits) := ⟨rfl, rfl, rfl, by decide +kernel, rfl, by decide +kernel, by decide +kernel⟩
def sp_lbits (K : PySem.W.Frag) : Sp := fun vs H Q _ => ∃ (l : Addr) (ns : List Int) (m : Nat), vs = [.ref l, .int m] ∧ SqL K H l (ns.map V.int) ∧ ns.length ≤ 63 ∧
  ∀ r (bs : List Int) H', H' r = some (.lst (bs.map V.int)) → H r = none → Bits bs → bs.length ≤ m → bs.length ≤ 2520 → Same H H' → Q (.ref r) H'
theorem ok__law_bits (T : Txt K mg a) : FnOk P w K mg base CX0 1 a.f__law_bits a.d__law_bits ["_law_script", "_law_most"] (sp_lbits K) := by
  refine T.F__law_bits.ok sc__law_bits (fun vs H Q E h => ?_) (fun cdv A outer s H vs Q E hr h => ?_)
  · obtain ⟨l, ns, m, rfl, _⟩ := h
    rfl
  · obtain ⟨l, ns, m, rfl, hl, hlen, k⟩ := h
    refine ⟨_, (pss_cons (ps_set (i := 2) sc__law_bits.nd rfl (Or.inl rfl) (pe_lst pa_nil)) (pss_cons (ps_for PassesOwn.never rfl (pi_enum rfl T.z_enumerate (pa_cons (pe_slice sl_list (pv 0) po_none (po_some (pv 1))) pa_nil (star_ok rfl))) (pg_tup rfl (pgs_cons (pg_name (i := 3) sc__law_bits.nd rfl (Or.inl rfl)) (pgs_cons (pg_name (i := 4) sc__law_bits.nd rfl (Or.inl rfl)) pgs_nil))) (pss_cons (ps_set (i := 5) sc__law_bits.nd rfl (Or.inl rfl) (pe_op op_mod (pe_op op_mul (pe_op op_add (pe_op op_add (pe_op op_mod (pv 4) pe_int) (pe_op op_mul (pe_op op_mul pe_int (pv 3)) (pv 3))) pe_int) pe_int) pe_int)) (pss_one (ps_set (i := 2) sc__law_bits.nd rfl (Or.inl rfl) (pe_op op_cat (pv 2) (pe_op op_rep (pe_lst (pa_cons (pe_op op_mod (pv 5) pe_int) pa_nil (star_ok rfl))) (pe_ix ix_list (pe_lst (pa_cons pe_int (pa_cons pe_int (pa_cons pe_int (pa_cons (pe_op op_add pe_int (pe_op op_mod (pe_op op_fdivB (pv 5) pe_int) pe_int)) (pa_cons (pe_op op_add pe_int (pe_op op_mod (pe_op op_fdivB (pv 5) pe_int) pe_int)) pa_nil (star_ok rfl)) (star_ok rfl)) (star_ok rfl)) (star_ok rfl)) (star_ok rfl))) (pe_op op_mod (pe_op op_fdivB (pv 5) pe_int) pe_int) (fun _ _ => rfl)))))))) (pss_one (ps_ret (pe_slice sl_list (pv 2) po_none (po_some (pv 1))))))), ?_⟩
    try dsimp only [cxOf]
    refine i_start (σ' := [some _, some _, none, none, none, none]) rfl ?_
    walk_at "rd"
    refine ⟨by walk_at "len", fun r0 hr0 => ?_⟩
    have S0 := same_upd (o := HO.lst []) hr0
    have e0 : upd H r0 (HO.lst []) r0 = some (.lst (List.map V.int [])) := upd_same
    generalize upd H r0 (HO.lst []) = H0 at S0 e0 ⊢
    walk_at "rd"
    refine i_slL (S0.seq hl) fun q hq => ?_
    obtain ⟨ms, hms, hml, hmm⟩ := cut_sub ns none (some (m : Int))
    rw [hms]
    have S1 := S0.trans (same_upd (o := HO.lst (ms.map V.int)) hq)
    have e1 : upd H0 q (HO.lst (ms.map V.int)) q = some (.lst (ms.map V.int)) := upd_same
    have e0 := upd_new (o' := HO.lst (ms.map V.int)) hq e0
    generalize upd H0 q (HO.lst (ms.map V.int)) = H1 at S1 e0 e1 ⊢
    walk_at "rd"
    refine ⟨q, rfl, ⟨_, SqL.of e1⟩, for_enum (K := K) (a := q) (xs := ms.map V.int) (fun i σ2 H2 => ∃ (r : Addr) (bs : List Int) (v1 v2 v3 : Option V), σ2 = [some (.ref l), some (.int m), some (.ref r), v1, v2, v3] ∧ H2 r = some (.lst (bs.map V.int)) ∧ Bits bs ∧ bs.length ≤ 40 * i ∧ H r = none ∧ H2 q = some (.lst (ms.map V.int)) ∧ Same H H2)
      ⟨r0, [], _, _, _, rfl, e0, fun _ z => (nomatch z), by simp, hr0, e1, S1⟩ (fun i σ2 H2 _ ⟨_, _, _, _, _, _, _, _, _, _, z, _⟩ => SqL.of z) ?_ ?_⟩
    · rintro i y σ2 H2 t hi ⟨r, bs, v1, v2, v3, rfl, hr2, hb, hbl, hrn, hq2, S2⟩ ht
      obtain ⟨c, rfl, _, _, hil⟩ := getInt hi
      have i0 : (0 : Int) ≤ (i : Int) := Int.natCast_nonneg i
      have i1 : (i : Int) < 63 := by omega
      have c0 : 0 ≤ c % 1000000007 := Int.emod_nonneg _ (by decide)
      have c1 : c % 1000000007 < 1000000007 := Int.emod_lt_of_pos _ (by decide)
      have S3 := S2.trans (same_upd (o := HO.tup [V.int i, V.int c]) ht)
      have hr3 := upd_new (o' := HO.tup [V.int i, V.int c]) ht hr2
      have hq3 := upd_new (o' := HO.tup [V.int i, V.int c]) ht hq2
      have ht3 : upd H2 t (HO.tup [V.int i, V.int c]) t = some (.tup [V.int i, V.int c]) := upd_same
      generalize upd H2 t (HO.tup [V.int i, V.int c]) = H3 at S3 hr3 hq3 ht3 ⊢
      refine i_gTup (SqT.of ht3) rfl ?_
      walk_at "rd"
      generalize (c % 1000000007 + 31 * (i : Int) * (i : Int) + 7) * 48271 % 2147483647 = u
      have b0 : 0 ≤ u % 2 := Int.emod_nonneg _ (by decide)
      have b1 : u % 2 < 2 := Int.emod_lt_of_pos _ (by decide)
      generalize u % 2 = b at b0 b1 ⊢
      refine ⟨by walk_at "len", fun l1 h1 => ?_⟩
      have S4 := S3.trans (same_upd (o := HO.lst [V.int b]) h1)
      have hr4 := upd_new (o' := HO.lst [V.int b]) h1 hr3
      have hq4 := upd_new (o' := HO.lst [V.int b]) h1 hq3
      have h4 : upd H3 l1 (HO.lst [V.int b]) l1 = some (.lst [V.int b]) := upd_same
      generalize upd H3 l1 (HO.lst [V.int b]) = H4 at S4 hr4 hq4 h4 ⊢
      walk_at "rd"
      refine ⟨by walk_at "len", fun l2 h2 => ?_⟩
      have w0 : 0 ≤ u / 8 % 7 := Int.emod_nonneg _ (by decide)
      have w1 : u / 8 % 7 < 7 := Int.emod_lt_of_pos _ (by decide)
      have x0 : 0 ≤ u / 8 % 40 := Int.emod_nonneg _ (by decide)
      have x1 : u / 8 % 40 < 40 := Int.emod_lt_of_pos _ (by decide)
      generalize u / 8 % 7 = w at w0 w1 ⊢
      generalize u / 8 % 40 = x at x0 x1 ⊢
      have S5 := S4.trans (same_upd (o := HO.lst [V.int 1, V.int 1, V.int 2, V.int (1 + w), V.int (1 + x)]) h2)
      have hr5 := upd_new (o' := HO.lst [V.int 1, V.int 1, V.int 2, V.int (1 + w), V.int (1 + x)]) h2 hr4
      have hq5 := upd_new (o' := HO.lst [V.int 1, V.int 1, V.int 2, V.int (1 + w), V.int (1 + x)]) h2 hq4
      have h5 := upd_new (o' := HO.lst [V.int 1, V.int 1, V.int 2, V.int (1 + w), V.int (1 + x)]) h2 h4
      have h6 : upd H4 l2 (HO.lst [V.int 1, V.int 1, V.int 2, V.int (1 + w), V.int (1 + x)]) l2 = some (.lst [V.int 1, V.int 1, V.int 2, V.int (1 + w), V.int (1 + x)]) := upd_same
      generalize upd H4 l2 (HO.lst [V.int 1, V.int 1, V.int 2, V.int (1 + w), V.int (1 + x)]) = H5 at S5 hr5 hq5 h5 h6 ⊢
      walk_at "rd"
      obtain ⟨v, hv, ha⟩ := atI_any (xs := [V.int 1, V.int 1, V.int 2, V.int (1 + w), V.int (1 + x)]) (i := u / 2 % 5) (Int.emod_nonneg _ (by decide)) (by show _ < (5 : Int); exact Int.emod_lt_of_pos _ (by decide))
      refine i_ixL (SqL.of h6) ha ?_
      obtain ⟨z, rfl, z0, z1⟩ : ∃ z : Int, v = V.int z ∧ 0 ≤ z ∧ z ≤ 40 := by
        simp only [List.mem_cons, List.not_mem_nil, or_false] at hv
        rcases hv with rfl | rfl | rfl | rfl | rfl
        · exact ⟨_, rfl, by decide, by decide⟩
        · exact ⟨_, rfl, by decide, by decide⟩
        · exact ⟨_, rfl, by decide, by decide⟩
        · exact ⟨_, rfl, by omega, by omega⟩
        · exact ⟨_, rfl, by omega, by omega⟩
      refine ⟨l1, z, _, rfl, rfl, h5, by omega, by omega, line_le (by show 1 * z.toNat ≤ 16000000; omega), fun l3 h3 => ?_⟩
      rw [flat_ints]
      have S6 := S5.trans (same_upd (o := HO.lst (List.map V.int (List.replicate z.toNat b))) h3)
      have hr6 := upd_new (o' := HO.lst (List.map V.int (List.replicate z.toNat b))) h3 hr5
      have hq6 := upd_new (o' := HO.lst (List.map V.int (List.replicate z.toNat b))) h3 hq5
      have h7 : upd H5 l3 (HO.lst (List.map V.int (List.replicate z.toNat b))) l3 = some (.lst (List.map V.int (List.replicate z.toNat b))) := upd_same
      generalize upd H5 l3 (HO.lst (List.map V.int (List.replicate z.toNat b))) = H6 at S6 hr6 hq6 h7 ⊢
      refine ⟨r, l3, _, _, rfl, rfl, hr6, h7, line_le (by rw [List.length_map, List.length_map, List.length_replicate]; omega), fun l4 h8 => ?_⟩
      walk_at "rd"
      refine ⟨l4, bs ++ List.replicate z.toNat b, _, _, _, rfl, ?_, bits_app hb fun b' hb' => ?_, ?_, ?_, upd_new h8 hq6, S6.trans (same_upd h8)⟩
      · rw [upd_same, List.map_append]
      · rw [List.eq_of_mem_replicate hb']
        omega
      · rw [List.length_append, List.length_replicate]
        omega
      · exact S6.free h8
    · rintro σ2 H2 ⟨r, bs, v1, v2, v3, rfl, hr2, hb, hbl, hrn, hq2, S2⟩
      walk_at "rd"
      refine i_slL (SqL.of hr2) fun r2 hr3 => ?_
      rw [cut_take, ← List.map_take]
      rw [List.length_map] at hbl
      refine k r2 (bs.take m) _ upd_same (S2.free hr3) (fun b hb' => hb b (List.mem_of_mem_take hb')) ?_ ?_ (S2.trans (same_upd hr3))
      · rw [List.length_take]; omega
      · rw [List.length_take]; omega
theorem sc__law_long : FnScope ["_law_look_here", "_law_bits_here", "_law_book", "_law_state", "_law_bit"] ["_law_look_here", "_law_bits_here"] (defScope s__law_long) := ⟨rfl, rfl, rfl, by decide +kernel, rfl, by decide +kernel, by decide +kernel⟩
def sp_llong (K : PySem.W.Frag) : Sp := fun vs H Q _ => ∃ (lk r : Addr) (kd : Fin 3) (ps : List Int) (bs : List Int), vs = [.ref lk, .ref r] ∧ LookAt K H lk (.str (kdS kd)) ps ∧ H r = some (.lst (bs.map V.int)) ∧ Bits bs ∧ bs.length ≤ 1000 ∧ ∀ H', Same H H' → Q (.bl true) H'
theorem ok__law_long (T : Txt K mg a) : FnOk P w K mg base CX0 6 a.f__law_long a.d__law_long ["_law_look_here", "_law_bits_here"] (sp_llong K) := by
  refine T.F__law_long.ok sc__law_long (fun vs H Q E h => ?_) (fun cdv A outer s H vs Q E hr h => ?_)
  · obtain ⟨lk, r, kd, ps, bs, rfl, _⟩ := h
    rfl
  · obtain ⟨lk, r, kd, ps, bs, rfl, hl, hr', hbs, hbl, k⟩ := h
    refine blk_cons (ps_set (i := 2) sc__law_long.nd rfl (Or.inl rfl) (pe_make T.k_Book (ok_Book___init__ T) (hr.mono (by decide)) rfl T.m_Book T.B_Book___init__ .nil pass0 (pa_cons (pv 0) pa_nil (star_ok rfl)))) ?_
    refine blk_cons (ps_set (i := 3) sc__law_long.nd rfl (Or.inl rfl) (pe_lst (pa_cons pe_int (pa_cons pe_int (pa_cons pe_int (pa_cons pe_int (pa_cons pe_int pa_nil (star_ok rfl)) (star_ok rfl)) (star_ok rfl)) (star_ok rfl)) (star_ok rfl)))) ?_
    refine blk_cons (ps_for PassesOwn.never rfl (pi_list (pv 1)) (pg_name (i := 4) sc__law_long.nd rfl (Or.inl rfl)) (pss_cons (ps_if (pt_cmpR op_ne (pe_meth (pv 2) T.cl_Book T.M_Book_chance (ok_Book_chance T) (hr.mono (by decide)) T.B_Book_chance .nil pass0 (pa_cons (pe_lst pa_nil) (pa_cons pe_int pa_nil (star_ok rfl)) (star_ok rfl))) (pe_call (ok__law_due T) (hr.mono (by decide)) rfl T.m__law_due T.F__law_due.kp T.B__law_due .nil pass0 (pa_cons (pv 0) (pa_cons (pv 3) pa_nil (star_ok rfl)) (star_ok rfl))) (nomark _)) (pss_one (ps_ret pe_bl)) pss_nil) (pss_cons (ps_expr (pe_methE (pv 2) T.cl_Book T.M_Book_seen (ok_Book_seen T) (hr.mono (by decide)) T.B_Book_seen .nil catch_no (pa_cons (pe_lst pa_nil) (pa_cons pe_int (pa_cons (pv 4) pa_nil (star_ok rfl)) (star_ok rfl)) (star_ok rfl)))) (pss_one (ps_set (i := 3) sc__law_long.nd rfl (Or.inl rfl) (pe_call (ok__law_seen T) (hr.mono (by decide)) rfl T.m__law_seen T.F__law_seen.kp T.B__law_seen .nil pass0 (pa_cons (pv 3) (pa_cons (pv 4) pa_nil (star_ok rfl)) (star_ok rfl)))))))) ?_
    refine ⟨_, (pss_one (ps_ret (pe_cmpR op_eq (pe_meth (pv 2) T.cl_Book T.M_Book_chance (ok_Book_chance T) (hr.mono (by decide)) T.B_Book_chance .nil pass0 (pa_cons (pe_lst pa_nil) (pa_cons pe_int pa_nil (star_ok rfl)) (star_ok rfl))) (pe_call (ok__law_due T) (hr.mono (by decide)) rfl T.m__law_due T.F__law_due.kp T.B__law_due .nil pass0 (pa_cons (pv 0) (pa_cons (pv 3) pa_nil (star_ok rfl)) (star_ok rfl))) (nomark _)))), ?_⟩
    try dsimp only [cxOf]
    refine i_start (σ' := [some _, some _, none, none, none]) rfl ?_
    walk_at "rd"
    intro p dx np ndx ne
    refine ⟨p, dx, lk, kd, rfl, upd_same, fun d H1 hd0 hb1 B1 => ⟨rfl, ?_⟩⟩
    have S1 : Same H H1 := fun b o e => B1 b o (by rw [upd_ne (ne_of_none e np), upd_ne (ne_of_none e ndx)]; exact e) (ne_of_none e np)
    have hd0' : H d = none := by
      cases e : H d with
      | none => rfl
      | some o =>
        have := upd_new (o' := HO.ins a.C_Book dx []) (show upd H dx (.own p) p = none by rw [upd_ne ne.symm]; exact np) (upd_new (o' := HO.own p) ndx e)
        rw [this] at hd0
        cases hd0
    walk_at "rd"
    refine ⟨by walk_at "len", fun st hst => ?_⟩
    with_reducible first | refine new_obj2 hst fun H2 S2 hst2 => ?_ | refine new_obj hst fun H2 S2 hst2 => ?_
    have S12 := S1.trans S2
    walk_at "rd"
    refine ⟨r, rfl, ⟨_, SqL.of (S12 _ _ hr')⟩, for_list (K := K) (a := r) (xs := bs.map V.int) (fun i σ2 G => ∃ (st : Addr) (x : S5) (f : List Int → Option Slt) (O : Addr → Prop) (v1 : Option V), σ2 = [some (.ref lk), some (.ref r), some (.ref p), some (.ref st), v1] ∧ BkAt a G p dx lk d kd f O i ∧ G st = some (.lst x.v) ∧ x.Ok ∧ ((f (ctx ps [] 0) = none ∧ x = s50) ∨ ∃ s, f (ctx ps [] 0) = some s ∧ Rl kd x s) ∧ (∀ b, O b → H b = none) ∧ Same H G)
      ⟨st, s50, _, _, _, rfl, hb1.same S2, hst2, s50_ok, .inl ⟨rfl, rfl⟩, (fun b e => by rw [show b = d from e]; exact hd0'), S12⟩ (fun i σ2 G _ ⟨_, _, _, _, _, _, _, _, _, _, _, S⟩ => SqL.of (S _ _ hr')) ?_ ?_⟩
    · rintro i y σ2 G hi ⟨st, x, f, O, v1, rfl, hbG, hstG, hx, hrel, hO, SG⟩
      obtain ⟨b, rfl, hbm, _, hil⟩ := getInt hi
      obtain ⟨b0, b1⟩ := hbs b hbm
      have hdue : due5 kd x = bkDue (f (ctx ps [] 0)) := by
        rcases hrel with ⟨e1, rfl⟩ | ⟨s, e1, e2⟩
        · rw [e1]; exact due0 kd
        · rw [e1]; exact e2.due
      have hmeG := hbG.me
      walk_at "rd"
      refine ⟨by walk_at "len", fun z hz => ?_⟩
      with_reducible first | refine new_obj2 hz fun G1 T1 hz1 => ?_ | refine new_obj hz fun G1 T1 hz1 => ?_
      have hb1 := hbG.same T1
      have hme1 := hb1.me
      walk_at "rd"
      refine ⟨p, dx, lk, d, z, kd, f, O, i, _, ps, [], 0, rfl, hb1, hl.same (SG.trans T1), SqL.of hz1, fun G2 T2 => ?_⟩
      have T12 := T1.trans T2
      walk_at "rd"
      refine ⟨lk, st, kd, ps, x, rfl, hl.same (SG.trans T12), T12 _ _ hstG, hx, ?_⟩
      rw [hdue]
      walk_at "rd"
      refine iteNp rfl ?_
      have hb2 := hbG.same T12
      have hme2 := hb2.me
      walk_at "rd"
      refine ⟨by walk_at "len", fun z2 hz2 => ?_⟩
      with_reducible first | refine new_obj2 hz2 fun G3 T3 hz3 => ?_ | refine new_obj hz2 fun G3 T3 hz3 => ?_
      have T13 := T12.trans T3
      have hb3 := hbG.same T13
      walk_at "rd"
      refine ⟨p, dx, lk, d, z2, kd, f, O, i, ps, [], 0, .int b, _, rfl, hb3, by omega, hl.same (SG.trans T13), SqL.of hz3, .int b, (fun z => by rw [bit_of b0 b1] at z; cases z), fun b' hbb _ _ O' G4 hb4 hO4 B4 => ?_⟩
      obtain rfl : b = b' := V.int.inj hbb
      have S4 : Same H G4 := fun c o e => B4 c o ((SG.trans T13) c o e) fun w => by rw [hO c w] at e; cases e
      walk_at "rd"
      refine ⟨st, x, b, rfl, hb3.lst B4 (T13 _ _ hstG), hx, b0, b1, fun st' G5 hst0 hst5 T5 => ?_⟩
      walk_at "rd"
      refine ⟨st', _, _, O', _, rfl, hb4.same T5, hst5, see5_ok hx b0 b1, .inr ⟨_, by unfold updF; rw [if_pos rfl], ?_⟩, fun c hc => ?_, S4.trans T5⟩
      · rcases hrel with ⟨e1, rfl⟩ | ⟨s, e1, e2⟩
        · rw [e1]
          exact (Rl0 kd).see b0 b1 s50_ok
        · rw [e1]
          exact e2.see b0 b1 hx
      · rcases hO4 c hc with w | w
        · exact hO c w
        · exact (SG.trans T13).free w
    · rintro σ2 G ⟨st, x, f, O, v1, rfl, hbG, hstG, hx, hrel, hO, SG⟩
      have hdue : due5 kd x = bkDue (f (ctx ps [] 0)) := by
        rcases hrel with ⟨e1, rfl⟩ | ⟨s, e1, e2⟩
        · rw [e1]; exact due0 kd
        · rw [e1]; exact e2.due
      have hmeG := hbG.me
      walk_at "rd"
      refine ⟨by walk_at "len", fun z hz => ?_⟩
      with_reducible first | refine new_obj2 hz fun G1 T1 hz1 => ?_ | refine new_obj hz fun G1 T1 hz1 => ?_
      walk_at "rd"
      refine ⟨p, dx, lk, d, z, kd, f, O, _, _, ps, [], 0, rfl, hbG.same T1, hl.same (SG.trans T1), SqL.of hz1, fun G2 T2 => ?_⟩
      have T12 := T1.trans T2
      walk_at "rd"
      refine ⟨lk, st, kd, ps, x, rfl, hl.same (SG.trans T12), T12 _ _ hstG, hx, ?_⟩
      rw [hdue]
      walk_at "rd"
      rw [decide_eq_true rfl]
      exact k _ (SG.trans T12)
theorem sc_law : FnScope ["_law_script", "_law_pick", "_law_few", "_law_some", "_law_cut", "_law_last", "_law_texts", "_law_looks", "_law_decisions_here", "_law_odd"] ["_law_script"] (defScope s_law) := ⟨rfl, rfl, rfl, by decide +kernel, rfl, by decide +kernel, by decide +kernel⟩
def sp_law (K : PySem.W.Frag) : Sp := fun vs H Q _ => ∃ (l : Addr) (ns : List Int), vs = [.ref l] ∧ SqL K H l (ns.map V.int) ∧ ns.length ≤ 63 ∧ ∀ H', Q (.bl true) H'
def fw (w : Int) : V → V
  | .int c => .int (c % w * 85 % 256)
  | _ => .non
theorem fw_map (w : Int) (ns : List Int) : (ns.map V.int).map (fw w) = (ns.map (fun c => c % w * 85 % 256)).map V.int := by
  rw [List.map_map, List.map_map]
  rfl
theorem cutV_len (xs : List V) (n m : Nat) : (cutV xs (some (n : Int)) (some (m : Int))).length ≤ m - n := by
  unfold cutV
  rw [HT.sIx_nat, HT.sIx_nat, List.length_take, List.length_drop]
  omega
theorem cut_len (ns : List Int) (n m : Nat) (lo hi : Option Int) (h : ns.length ≤ n) : ∃ ms : List Int, cutV (ns.map V.int) lo hi = ms.map V.int ∧ ms.length ≤ n := by
  obtain ⟨ms, h1, h2, _⟩ := cut_sub ns lo hi
  exact ⟨ms, h1, by omega⟩
theorem ok_law (T : Txt K mg a) : FnOk P w K mg base CX0 8 a.f_law a.d_law ["_law_script"] (sp_law K) := by
  refine T.F_law.ok sc_law (fun vs H Q E h => ?_) (fun cdv A outer s H vs Q E hr h => ?_)
  · obtain ⟨l, ns, rfl, _⟩ := h
    rfl
  · obtain ⟨l, ns, rfl, hS, hlen, k⟩ := h
    refine blk_cons (ps_set (i := 1) sc_law.nd rfl (Or.inl rfl) (pe_op op_mod (pe_call (ok__law_cell_at T) (hr.mono (by decide)) rfl T.m__law_cell_at T.F__law_cell_at.kp T.B__law_cell_at .nil pass0 (pa_cons (pv 0) (pa_cons pe_int pa_nil (star_ok rfl)) (star_ok rfl))) pe_int)) ?_
    refine blk_cons (ps_set (i := 2) sc_law.nd rfl (Or.inr rfl) (pe_ix ix_list (pe_lst (pa_cons pe_int (pa_cons pe_int (pa_cons pe_int (pa_cons pe_int pa_nil (star_ok rfl)) (star_ok rfl)) (star_ok rfl)) (star_ok rfl))) (pe_op op_mod (pv 1) pe_int) (fun _ _ => rfl))) ?_
    refine blk_cons (ps_compF (i := 3) (js := [2]) (ys := ["_law_few"]) sc_law.nd rfl rfl rfl (pi_list (pe_slice sl_list (pv 0) (po_some pe_int) (po_some pe_int))) (fun C s2 H2 fp => (pe_op op_mod (pe_op op_mul (pe_op op_mod (pv 0) (pv 1)) pe_int) pe_int)) rfl rfl (hyc := (all_cons rfl all_nil)) (hrel := (all_cons rfl all_nil))) ?_
    refine blk_cons (ps_set (i := 4) sc_law.nd rfl (Or.inl rfl) (pe_op op_mod (pe_op op_fdivB (pv 1) pe_int) (pe_op op_add (pe_callB call_len_seq rfl T.z_len (by decide +kernel) (pa_cons (pv 3) pa_nil (star_ok rfl))) pe_int))) ?_
    refine blk_cons (ps_set (i := 5) sc_law.nd rfl (Or.inl rfl) (pe_op op_mod (pe_op op_fdivB (pv 1) pe_int) (pe_op op_add (pe_callB call_len_seq rfl T.z_len (by decide +kernel) (pa_cons (pv 3) pa_nil (star_ok rfl))) pe_int))) ?_
    refine blk_cons (ps_set (i := 6) sc_law.nd rfl (Or.inl rfl) (pe_lst (pa_cons (pe_slice sl_list (pv 3) po_none (po_some (pv 4))) (pa_cons (pe_slice sl_list (pv 3) (po_some (pv 4)) (po_some (pv 5))) (pa_cons (pe_slice sl_list (pv 3) (po_some (pe_callB (call_max2 rfl) rfl T.z_max (by decide +kernel) (pa_cons (pv 4) (pa_cons (pv 5) pa_nil (star_ok rfl)) (star_ok rfl)))) po_none) pa_nil (star_ok rfl)) (star_ok rfl)) (star_ok rfl)))) ?_
    refine blk_cons (ps_set (i := 7) sc_law.nd rfl (Or.inl rfl) (pe_lst (pa_cons (pe_call (ok__law_look T) (hr.mono (by decide)) rfl T.m__law_look T.F__law_look.kp T.B__law_look .nil pass0 (pa_cons (pe_op op_mod (pe_call (ok__law_cell_at T) (hr.mono (by decide)) rfl T.m__law_cell_at T.F__law_cell_at.kp T.B__law_cell_at .nil pass0 (pa_cons (pv 0) (pa_cons pe_int pa_nil (star_ok rfl)) (star_ok rfl))) pe_int) pa_nil (star_ok rfl))) (pa_cons (pe_call (ok__law_look T) (hr.mono (by decide)) rfl T.m__law_look T.F__law_look.kp T.B__law_look .nil pass0 (pa_cons (pe_op op_mod (pe_call (ok__law_cell_at T) (hr.mono (by decide)) rfl T.m__law_cell_at T.F__law_cell_at.kp T.B__law_cell_at .nil pass0 (pa_cons (pv 0) (pa_cons pe_int pa_nil (star_ok rfl)) (star_ok rfl))) pe_int) pa_nil (star_ok rfl))) pa_nil (star_ok rfl)) (star_ok rfl)))) ?_
    refine blk_cons (ps_set (i := 8) sc_law.nd rfl (Or.inl rfl) (pe_call (ok__law_decisions T) (hr.mono (by decide)) rfl T.m__law_decisions T.F__law_decisions.kp T.B__law_decisions .nil pass0 (pa_cons (pe_slice sl_list (pv 6) (po_some (pe_op op_mod (pe_op op_fdivB (pv 1) pe_int) pe_int)) po_none) pa_nil (star_ok rfl)))) ?_
    refine blk_cons (ps_if (pt_not (pt_val (pe_call (ok__law_long T) (hr.mono (by decide)) rfl T.m__law_long T.F__law_long.kp T.B__law_long .nil pass0 (pa_cons (pe_ix ix_list (pv 7) pe_int (fun _ _ => rfl)) (pa_cons (pe_call (ok__law_bits T) (hr.mono (by decide)) rfl T.m__law_bits T.F__law_bits.kp T.B__law_bits .nil pass0 (pa_cons (pv 0) (pa_cons pe_int pa_nil (star_ok rfl)) (star_ok rfl))) pa_nil (star_ok rfl)) (star_ok rfl))))) (pss_one (ps_ret pe_bl)) pss_nil) ?_
    refine blk_cons (ps_set (i := 9) sc_law.nd rfl (Or.inl rfl) (pe_ix ix_list (pe_lst (pa_cons pe_bl (pa_cons pe_bl (pa_cons pe_int (pa_cons (pe_un un_neg pe_int) (pa_cons pe_non (pa_cons pe_str (pa_cons (pe_lst (pa_cons pe_int pa_nil (star_ok rfl))) pa_nil (star_ok rfl)) (star_ok rfl)) (star_ok rfl)) (star_ok rfl)) (star_ok rfl)) (star_ok rfl)) (star_ok rfl))) (pe_op op_mod (pe_op op_fdivB (pv 1) pe_int) pe_int) (fun _ _ => rfl))) ?_
    refine ⟨_, (pss_one (ps_ret (pe_call (ok__law_walked T) (hr.mono (by decide)) rfl T.m__law_walked T.F__law_walked.kp T.B__law_walked .nil pass0 (pa_cons (pv 7) (pa_cons (pv 8) (pa_cons (pe_op op_mod (pe_op op_fdivB (pv 1) pe_int) (pe_callB (call_max2 rfl) rfl T.z_max (by decide +kernel) (pa_cons pe_int (pa_cons (pe_callB call_len_seq rfl T.z_len (by decide +kernel) (pa_cons (pv 8) pa_nil (star_ok rfl))) pa_nil (star_ok rfl)) (star_ok rfl)))) (pa_cons (pv 9) pa_nil (star_ok rfl)) (star_ok rfl)) (star_ok rfl)) (star_ok rfl))))), ?_⟩
    try dsimp only [cxOf]
    refine i_start (σ' := [some _, none, none, none, none, none, none, none, none, none]) rfl ?_
    walk_at "rd"
    refine ⟨l, ns, 0, rfl, hS, fun c => ?_⟩
    walk_at "rd"
    generalize c % 1000000007 = pk
    refine ⟨by walk_at "len", fun q hq => ?_⟩
    with_reducible first | refine new_obj2 hq fun H1 S1 hq1 => ?_ | refine new_obj hq fun H1 S1 hq1 => ?_
    walk_at "rd"
    obtain ⟨v, hv, ha⟩ := atI_any (xs := [V.int 256, V.int 3, V.int 2, V.int 17]) (i := pk % 4) (Int.emod_nonneg _ (by decide)) (by show _ < (4 : Int); exact Int.emod_lt_of_pos _ (by decide))
    refine i_ixL (SqL.of hq1) ha ?_
    obtain ⟨w', rfl, w0, w1⟩ : ∃ w' : Int, v = V.int w' ∧ 0 < w' ∧ w' ≤ 256 := by
      simp only [List.mem_cons, List.not_mem_nil, or_false] at hv
      rcases hv with rfl | rfl | rfl | rfl <;> exact ⟨_, rfl, by decide, by decide⟩
    walk_at "rd"
    refine i_slL (S1.seq hS) fun u hu => ?_
    obtain ⟨ms, hms, hml, hmm⟩ := cut_sub ns (some 3) (some 23)
    have hm20 : ms.length ≤ 20 := by
      have e : (cutV (ns.map V.int) (some 3) (some 23)).length ≤ 20 := by
        have c1 := cutV_len (ns.map V.int) 3 23
        omega
      rw [hms, List.length_map] at e
      exact e
    rw [hms]
    have S2 := same_upd (o := (HO.lst (ms.map V.int))) hu
    have hu2 : upd H1 u (HO.lst (ms.map V.int)) u = some (HO.lst (ms.map V.int)) := upd_same
    generalize upd H1 u (HO.lst (ms.map V.int)) = H2 at S2 hu2 ⊢
    refine ⟨u, rfl, ⟨_, SqL.of hu2⟩, fun D hD => ?_⟩
    refine compF_listM (xs := ms.map V.int) (fw w') (SqL.of hu2) hD (fun i y H5 hy S5 hD5 => ?_) (fun H3 S3 hD3 => ?_)
    · obtain ⟨p, rfl, _, _, _⟩ := getInt hy
      walk_at "rd"
      exact Mp.done hD (line_lt (by rw [List.length_map]; omega)) hy S5 hD5 rfl
    rw [fw_map] at hD3
    have hsz : (ms.map (fun c => c % w' * 85 % 256)).length ≤ 20 := by rw [List.length_map]; exact hm20
    generalize ms.map (fun c => c % w' * 85 % 256) = sm at hD3 hsz
    have S03 := S1.trans (S2.trans S3)
    walk_at "rd"
    refine i_len (SqL.of hD3) ?_
    rw [List.length_map]
    walk_at "rd"
    refine i_len (SqL.of hD3) ?_
    rw [List.length_map]
    walk_at "rd"
    generalize pk / 4 % ((sm.length : Int) + 1) = ct
    generalize pk / 200 % ((sm.length : Int) + 1) = ls
    refine i_slL (SqL.of hD3) fun t0 ht0 => ?_
    obtain ⟨g0, hg0, hl0⟩ := cut_len sm 20 0 none (some ct) hsz
    rw [hg0]
    with_reducible first | refine new_obj2 ht0 fun H4 S4 ht04 => ?_ | refine new_obj ht0 fun H4 S4 ht04 => ?_
    walk_at "rd"
    refine i_slL (SqL.of (S4 _ _ hD3)) fun t1 ht1 => ?_
    obtain ⟨g1, hg1, hl1⟩ := cut_len sm 20 0 (some ct) (some ls) hsz
    rw [hg1]
    with_reducible first | refine new_obj2 ht1 fun H5 S5 ht15 => ?_ | refine new_obj ht1 fun H5 S5 ht15 => ?_
    walk_at "rd"
    refine ⟨_, _, rfl, ?_⟩
    walk_at "rd"
    generalize (if ls > ct then ls else ct) = mx
    refine i_slL (SqL.of ((S4.trans S5) _ _ hD3)) fun t2 ht2 => ?_
    obtain ⟨g2, hg2, hl2⟩ := cut_len sm 20 0 (some mx) none hsz
    rw [hg2]
    with_reducible first | refine new_obj2 ht2 fun H6 S6 ht26 => ?_ | refine new_obj ht2 fun H6 S6 ht26 => ?_
    walk_at "rd"
    refine ⟨by walk_at "len", fun tl htl => ?_⟩
    with_reducible first | refine new_obj2 htl fun H7 S7 htl7 => ?_ | refine new_obj htl fun H7 S7 htl7 => ?_
    have S07 := S03.trans (S4.trans (S5.trans (S6.trans S7)))
    walk_at "rd"
    refine ⟨l, ns, 1, rfl, S07.seq hS, fun c1 => ?_⟩
    walk_at "rd"
    refine ⟨_, rfl, fun lk0 kd0' ps0 H8 hlk0 S8 => ?_⟩
    walk_at "rd"
    refine ⟨l, ns, 2, rfl, (S07.trans S8).seq hS, fun c2 => ?_⟩
    walk_at "rd"
    refine ⟨_, rfl, fun lk1 kd1' ps1 H9 hlk1 S9 => ?_⟩
    walk_at "rd"
    refine ⟨by walk_at "len", fun L hL0 => ?_⟩
    with_reducible first | refine new_obj2 hL0 fun H10 S10 hL10 => ?_ | refine new_obj hL0 fun H10 S10 hL10 => ?_
    have S710 := S8.trans (S9.trans S10)
    walk_at "rd"
    refine i_slL (SqL.of (S710 _ _ htl7)) fun tx htx => ?_
    obtain ⟨tls, htls, htn, htm⟩ : ∃ tls : List Addr, cutV [V.ref t0, V.ref t1, V.ref t2] (some (pk / 50 % 3)) none = tls.map V.ref ∧ tls.length ≤ 3 ∧ ∀ t ∈ tls, t ∈ [t0, t1, t2] := by
      refine ⟨([t0, t1, t2].drop (HT.sIx 3 0 (some (pk / 50 % 3)))).take (HT.sIx 3 3 none - HT.sIx 3 0 (some (pk / 50 % 3))), ?_, ?_, fun t ht => List.mem_of_mem_drop (List.mem_of_mem_take ht)⟩
      · unfold cutV
        rw [List.map_take, List.map_drop]
        rfl
      · rw [List.length_take, List.length_drop]
        show min _ (3 - _) ≤ 3
        omega
    rw [htls]
    with_reducible first | refine new_obj2 htx fun H11 S11 htx11 => ?_ | refine new_obj htx fun H11 S11 htx11 => ?_
    have S711 := S710.trans S11
    walk_at "rd"
    refine ⟨tx, tls, rfl, htx11, htn, fun t ht => ?_, fun F H12 hF0 hFd S12 => ?_⟩
    · have hm := htm t ht
      simp only [List.mem_cons, List.not_mem_nil, or_false] at hm
      rcases hm with rfl | rfl | rfl
      · exact ⟨g0, (S5.trans (S6.trans (S7.trans S711))) _ _ ht04, hl0⟩
      · exact ⟨g1, (S6.trans (S7.trans S711)) _ _ ht15, hl1⟩
      · exact ⟨g2, (S7.trans S711) _ _ ht26, hl2⟩
    have S012 := S07.trans (S711.trans S12)
    walk_at "rd"
    refine i_ixL (SqL.of ((S11.trans S12) _ _ hL10)) (atI_nat (j := 0) rfl) ?_
    walk_at "rd"
    refine ⟨l, ns, 700, rfl, S012.seq hS, hlen, fun r bs H13 hr13 hr0 hb hb1 hb2 S13 => ?_⟩
    walk_at "rd"
    have S813 := S9.trans (S10.trans (S11.trans (S12.trans S13)))
    refine ⟨lk0, r, kd0', ps0, bs, rfl, hlk0.same S813, hr13, hb, by omega, fun H14 S14 => ?_⟩
    walk_at "rd"
    refine ⟨by walk_at "len", fun o1 ho1 => ?_⟩
    with_reducible first | refine new_obj2 ho1 fun H15 S15 ho15 => ?_ | refine new_obj ho1 fun H15 S15 ho15 => ?_
    walk_at "rd"
    refine ⟨by walk_at "len", fun o2 ho2 => ?_⟩
    with_reducible first | refine new_obj2 ho2 fun H16 S16 ho16 => ?_ | refine new_obj ho2 fun H16 S16 ho16 => ?_
    walk_at "rd"
    obtain ⟨odd, hodd, hoa⟩ := atI_any (xs := [V.bl true, V.bl false, V.int 2, V.int (-1), V.non, V.str "0", V.ref o1]) (i := pk / 9 % 7) (Int.emod_nonneg _ (by decide)) (by show _ < (7 : Int); exact Int.emod_lt_of_pos _ (by decide))
    refine i_ixL (SqL.of ho16) hoa ?_
    obtain ⟨n, hox, hoty⟩ : ∃ n, bitV odd = false ∧ ∀ G : Hp, (∀ b xs, H16 b = some (.lst xs) → G b = some (.lst xs)) → TyOf K G odd (.type n) := by
      simp only [List.mem_cons, List.not_mem_nil, or_false] at hodd
      rcases hodd with rfl | rfl | rfl | rfl | rfl | rfl | rfl
      · exact ⟨_, rfl, fun _ _ => .bl _⟩
      · exact ⟨_, rfl, fun _ _ => .bl _⟩
      · exact ⟨_, rfl, fun _ _ => .int _⟩
      · exact ⟨_, rfl, fun _ _ => .int _⟩
      · exact ⟨_, rfl, fun _ _ => .non⟩
      · exact ⟨_, rfl, fun _ _ => .str _⟩
      · exact ⟨_, rfl, fun G h => .lst (h _ _ (S16 _ _ ho15))⟩
    have S1216 := S13.trans (S14.trans (S15.trans S16))
    have hFd16 : FdAt H16 F 1000 := by
      obtain ⟨ts, a1, a2, a3⟩ := hFd
      exact ⟨ts, S1216 _ _ a1, a2, fun t ht => let ⟨x1, x2, x3, x4, y1, y2, y3⟩ := a3 t ht; ⟨x1, x2, x3, x4, S1216 _ _ y1, S1216 _ _ y2, y3⟩⟩
    have hFl := hFd16
    obtain ⟨ts, hts, htsl, _⟩ := hFl
    walk_at "rd"
    refine i_len (SqL.of hts) ?_
    rw [List.length_map]
    walk_at "rd"
    refine ⟨_, _, rfl, ?_⟩
    have hmx : (0 : Int) < (if (ts.length : Int) > 1 then (ts.length : Int) else 1) := by split <;> omega
    generalize (if (ts.length : Int) > 1 then (ts.length : Int) else 1) = mx2 at hmx
    walk_at "rd"
    exact ⟨L, F, _, odd, n, fun j => if j = 0 then lk0 else lk1, fun j => if j = 0 then kd0' else kd1', fun j => if j = 0 then ps0 else ps1, rfl, (S11.trans (S12.trans S1216)) _ _ hL10, fun j hj => by
      obtain rfl | rfl : j = 0 ∨ j = 1 := by omega
      · exact hlk0.same (S813.trans (S14.trans (S15.trans S16)))
      · exact hlk1.same (S10.trans (S11.trans (S12.trans S1216))), hFd16, hox, hoty, fun _ => k _⟩
end
theorem all_mk {l : PySem.W.OpenLaw} {w : World} {K : PySem.W.Frag} {h : Heap} {mg : Str → Option Value} {fa : Addr} (X : K.In h) (G : h.Ns mainGlobals mg) (hfa : mg "law" = some (.ref fa))
    {C_Even : Addr}
    {C_Quick : Addr}
    {C_Run : Addr}
    {C_Slot : Addr}
    {C_Book : Addr}
    {C_NoBit : Addr}
    {C_NoLooks : Addr}
    {C_ForetellError : Addr}
    {C_NoText : Addr}
    {f_is_whole : Addr} {oc_is_whole kV_is_whole dc_is_whole pm_is_whole cd_is_whole ct_is_whole : Value} {od_is_whole an_is_whole : Option Addr} {sl_is_whole : Array (Option Value)}
    {f_is_bit : Addr} {oc_is_bit kV_is_bit dc_is_bit pm_is_bit cd_is_bit ct_is_bit : Value} {od_is_bit an_is_bit : Option Addr} {sl_is_bit : Array (Option Value)}
    {f_check_bit : Addr} {oc_check_bit kV_check_bit dc_check_bit pm_check_bit cd_check_bit ct_check_bit : Value} {od_check_bit an_check_bit : Option Addr} {sl_check_bit : Array (Option Value)}
    {f_Slot_chance : Addr} {oc_Slot_chance kV_Slot_chance dc_Slot_chance pm_Slot_chance cd_Slot_chance ct_Slot_chance : Value} {od_Slot_chance an_Slot_chance : Option Addr} {sl_Slot_chance : Array (Option Value)}
    {f_Even___init__ : Addr} {oc_Even___init__ kV_Even___init__ dc_Even___init__ pm_Even___init__ cd_Even___init__ ct_Even___init__ : Value} {od_Even___init__ an_Even___init__ : Option Addr} {sl_Even___init__ : Array (Option Value)}
    {f_Even_chance : Addr} {oc_Even_chance kV_Even_chance dc_Even_chance pm_Even_chance cd_Even_chance ct_Even_chance : Value} {od_Even_chance an_Even_chance : Option Addr} {sl_Even_chance : Array (Option Value)}
    {f_Even_seen : Addr} {oc_Even_seen kV_Even_seen dc_Even_seen pm_Even_seen cd_Even_seen ct_Even_seen : Value} {od_Even_seen an_Even_seen : Option Addr} {sl_Even_seen : Array (Option Value)}
    {f_Quick___init__ : Addr} {oc_Quick___init__ kV_Quick___init__ dc_Quick___init__ pm_Quick___init__ cd_Quick___init__ ct_Quick___init__ : Value} {od_Quick___init__ an_Quick___init__ : Option Addr} {sl_Quick___init__ : Array (Option Value)}
    {f_Quick_chance : Addr} {oc_Quick_chance kV_Quick_chance dc_Quick_chance pm_Quick_chance cd_Quick_chance ct_Quick_chance : Value} {od_Quick_chance an_Quick_chance : Option Addr} {sl_Quick_chance : Array (Option Value)}
    {f_Quick_seen : Addr} {oc_Quick_seen kV_Quick_seen dc_Quick_seen pm_Quick_seen cd_Quick_seen ct_Quick_seen : Value} {od_Quick_seen an_Quick_seen : Option Addr} {sl_Quick_seen : Array (Option Value)}
    {f_Run___init__ : Addr} {oc_Run___init__ kV_Run___init__ dc_Run___init__ pm_Run___init__ cd_Run___init__ ct_Run___init__ : Value} {od_Run___init__ an_Run___init__ : Option Addr} {sl_Run___init__ : Array (Option Value)}
    {f_Run_chance : Addr} {oc_Run_chance kV_Run_chance dc_Run_chance pm_Run_chance cd_Run_chance ct_Run_chance : Value} {od_Run_chance an_Run_chance : Option Addr} {sl_Run_chance : Array (Option Value)}
    {f_Run_seen : Addr} {oc_Run_seen kV_Run_seen dc_Run_seen pm_Run_seen cd_Run_seen ct_Run_seen : Value} {od_Run_seen an_Run_seen : Option Addr} {sl_Run_seen : Array (Option Value)}
    {f_slot_of : Addr} {oc_slot_of kV_slot_of dc_slot_of pm_slot_of cd_slot_of ct_slot_of : Value} {od_slot_of an_slot_of : Option Addr} {sl_slot_of : Array (Option Value)}
    {f_sign_back : Addr} {oc_sign_back kV_sign_back dc_sign_back pm_sign_back cd_sign_back ct_sign_back : Value} {od_sign_back an_sign_back : Option Addr} {sl_sign_back : Array (Option Value)}
    {f_context_of : Addr} {oc_context_of kV_context_of dc_context_of pm_context_of cd_context_of ct_context_of : Value} {od_context_of an_context_of : Option Addr} {sl_context_of : Array (Option Value)}
    {f_Book___init__ : Addr} {oc_Book___init__ kV_Book___init__ dc_Book___init__ pm_Book___init__ cd_Book___init__ ct_Book___init__ : Value} {od_Book___init__ an_Book___init__ : Option Addr} {sl_Book___init__ : Array (Option Value)}
    {f_Book_chance : Addr} {oc_Book_chance kV_Book_chance dc_Book_chance pm_Book_chance cd_Book_chance ct_Book_chance : Value} {od_Book_chance an_Book_chance : Option Addr} {sl_Book_chance : Array (Option Value)}
    {f_Book_slot_at : Addr} {oc_Book_slot_at kV_Book_slot_at dc_Book_slot_at pm_Book_slot_at cd_Book_slot_at ct_Book_slot_at : Value} {od_Book_slot_at an_Book_slot_at : Option Addr} {sl_Book_slot_at : Array (Option Value)}
    {f_Book_seen : Addr} {oc_Book_seen kV_Book_seen dc_Book_seen pm_Book_seen cd_Book_seen ct_Book_seen : Value} {od_Book_seen an_Book_seen : Option Addr} {sl_Book_seen : Array (Option Value)}
    {f__law_cell_at : Addr} {oc__law_cell_at kV__law_cell_at dc__law_cell_at pm__law_cell_at cd__law_cell_at ct__law_cell_at : Value} {od__law_cell_at an__law_cell_at : Option Addr} {sl__law_cell_at : Array (Option Value)}
    {f__law_whole : Addr} {oc__law_whole kV__law_whole dc__law_whole pm__law_whole cd__law_whole ct__law_whole : Value} {od__law_whole an__law_whole : Option Addr} {sl__law_whole : Array (Option Value)}
    {f__law_places : Addr} {oc__law_places kV__law_places dc__law_places pm__law_places cd__law_places ct__law_places : Value} {od__law_places an__law_places : Option Addr} {sl__law_places : Array (Option Value)}
    {f__law_look : Addr} {oc__law_look kV__law_look dc__law_look pm__law_look cd__law_look ct__law_look : Value} {od__law_look an__law_look : Option Addr} {sl__law_look : Array (Option Value)}
    {f__law_seen : Addr} {oc__law_seen kV__law_seen dc__law_seen pm__law_seen cd__law_seen ct__law_seen : Value} {od__law_seen an__law_seen : Option Addr} {sl__law_seen : Array (Option Value)}
    {f__law_due : Addr} {oc__law_due kV__law_due dc__law_due pm__law_due cd__law_due ct__law_due : Value} {od__law_due an__law_due : Option Addr} {sl__law_due : Array (Option Value)}
    {f__law_decisions : Addr} {oc__law_decisions kV__law_decisions dc__law_decisions pm__law_decisions cd__law_decisions ct__law_decisions : Value} {od__law_decisions an__law_decisions : Option Addr} {sl__law_decisions : Array (Option Value)}
    {f__law_context : Addr} {oc__law_context kV__law_context dc__law_context pm__law_context cd__law_context ct__law_context : Value} {od__law_context an__law_context : Option Addr} {sl__law_context : Array (Option Value)}
    {f__law_right : Addr} {oc__law_right kV__law_right dc__law_right pm__law_right cd__law_right ct__law_right : Value} {od__law_right an__law_right : Option Addr} {sl__law_right : Array (Option Value)}
    {f__law_refused : Addr} {oc__law_refused kV__law_refused dc__law_refused pm__law_refused cd__law_refused ct__law_refused : Value} {od__law_refused an__law_refused : Option Addr} {sl__law_refused : Array (Option Value)}
    {f__law_walked : Addr} {oc__law_walked kV__law_walked dc__law_walked pm__law_walked cd__law_walked ct__law_walked : Value} {od__law_walked an__law_walked : Option Addr} {sl__law_walked : Array (Option Value)}
    {f__law_bits : Addr} {oc__law_bits kV__law_bits dc__law_bits pm__law_bits cd__law_bits ct__law_bits : Value} {od__law_bits an__law_bits : Option Addr} {sl__law_bits : Array (Option Value)}
    {f__law_long : Addr} {oc__law_long kV__law_long dc__law_long pm__law_long cd__law_long ct__law_long : Value} {od__law_long an__law_long : Option Addr} {sl__law_long : Array (Option Value)}
    {f_law : Addr} {oc_law kV_law dc_law pm_law cd_law ct_law : Value} {od_law an_law : Option Addr} {sl_law : Array (Option Value)}
    {t_ONE : Tok}
    {t_MOST_COUNTED : Tok}
    {t_LEAST : Tok}
    {t_NO_SIGN : Tok}
    (aC_Even : PySem.W.nsIn K mainGlobals "Even" = some (some (.ref C_Even)))
    (aC_Quick : PySem.W.nsIn K mainGlobals "Quick" = some (some (.ref C_Quick)))
    (aC_Run : PySem.W.nsIn K mainGlobals "Run" = some (some (.ref C_Run)))
    (aC_Slot : PySem.W.nsIn K mainGlobals "Slot" = some (some (.ref C_Slot)))
    (aC_Book : PySem.W.nsIn K mainGlobals "Book" = some (some (.ref C_Book)))
    (aC_NoBit : PySem.W.nsIn K mainGlobals "NoBit" = some (some (.ref C_NoBit)))
    (aC_NoLooks : PySem.W.nsIn K mainGlobals "NoLooks" = some (some (.ref C_NoLooks)))
    (aC_ForetellError : PySem.W.nsIn K mainGlobals "ForetellError" = some (some (.ref C_ForetellError)))
    (aC_NoText : PySem.W.nsIn K mainGlobals "NoText" = some (some (.ref C_NoText)))
    (a_is_whole : PySem.W.nsIn K mainGlobals "is_whole" = some (some (.ref f_is_whole)))
    (l_is_whole : K.lookup f_is_whole = some ⟨oc_is_whole, od_is_whole, .func (PySem.W.fnOf "is_whole" "is_whole" (defArgs s_is_whole) (defBody s_is_whole) (defScope s_is_whole) .none kV_is_whole dc_is_whole pm_is_whole an_is_whole cd_is_whole ct_is_whole), sl_is_whole⟩)
    (c_is_whole : PySem.W.codeIn K cd_is_whole "is_whole" = true)
    (k_is_whole : PySem.W.keepIn K (.ref f_is_whole) = true)
    (a_is_bit : PySem.W.nsIn K mainGlobals "is_bit" = some (some (.ref f_is_bit)))
    (l_is_bit : K.lookup f_is_bit = some ⟨oc_is_bit, od_is_bit, .func (PySem.W.fnOf "is_bit" "is_bit" (defArgs s_is_bit) (defBody s_is_bit) (defScope s_is_bit) .none kV_is_bit dc_is_bit pm_is_bit an_is_bit cd_is_bit ct_is_bit), sl_is_bit⟩)
    (c_is_bit : PySem.W.codeIn K cd_is_bit "is_bit" = true)
    (k_is_bit : PySem.W.keepIn K (.ref f_is_bit) = true)
    (a_check_bit : PySem.W.nsIn K mainGlobals "check_bit" = some (some (.ref f_check_bit)))
    (l_check_bit : K.lookup f_check_bit = some ⟨oc_check_bit, od_check_bit, .func (PySem.W.fnOf "check_bit" "check_bit" (defArgs s_check_bit) (defBody s_check_bit) (defScope s_check_bit) .none kV_check_bit dc_check_bit pm_check_bit an_check_bit cd_check_bit ct_check_bit), sl_check_bit⟩)
    (c_check_bit : PySem.W.codeIn K cd_check_bit "check_bit" = true)
    (k_check_bit : PySem.W.keepIn K (.ref f_check_bit) = true)
    (a_Slot_chance : PySem.W.findIn K (.ref C_Slot) "chance" = some (some (.ref f_Slot_chance)))
    (i_Slot_chance : PySem.W.isFn K (.ref f_Slot_chance) = true)
    (l_Slot_chance : K.lookup f_Slot_chance = some ⟨oc_Slot_chance, od_Slot_chance, .func (PySem.W.fnOf "chance" "Slot.chance" (defArgs s_Slot_chance) (defBody s_Slot_chance) (defScope s_Slot_chance) .none kV_Slot_chance dc_Slot_chance pm_Slot_chance an_Slot_chance cd_Slot_chance ct_Slot_chance), sl_Slot_chance⟩)
    (c_Slot_chance : PySem.W.codeIn K cd_Slot_chance "Slot.chance" = true)
    (k_Slot_chance : PySem.W.keepIn K (.ref f_Slot_chance) = true)
    (a_Even___init__ : PySem.W.findIn K (.ref C_Even) "__init__" = some (some (.ref f_Even___init__)))
    (i_Even___init__ : PySem.W.isFn K (.ref f_Even___init__) = true)
    (l_Even___init__ : K.lookup f_Even___init__ = some ⟨oc_Even___init__, od_Even___init__, .func (PySem.W.fnOf "__init__" "Even.__init__" (defArgs s_Even___init__) (defBody s_Even___init__) (defScope s_Even___init__) .none kV_Even___init__ dc_Even___init__ pm_Even___init__ an_Even___init__ cd_Even___init__ ct_Even___init__), sl_Even___init__⟩)
    (c_Even___init__ : PySem.W.codeIn K cd_Even___init__ "Even.__init__" = true)
    (k_Even___init__ : PySem.W.keepIn K (.ref f_Even___init__) = true)
    (a_Even_chance : PySem.W.findIn K (.ref C_Even) "chance" = some (some (.ref f_Even_chance)))
    (i_Even_chance : PySem.W.isFn K (.ref f_Even_chance) = true)
    (l_Even_chance : K.lookup f_Even_chance = some ⟨oc_Even_chance, od_Even_chance, .func (PySem.W.fnOf "chance" "Even.chance" (defArgs s_Even_chance) (defBody s_Even_chance) (defScope s_Even_chance) .none kV_Even_chance dc_Even_chance pm_Even_chance an_Even_chance cd_Even_chance ct_Even_chance), sl_Even_chance⟩)
    (c_Even_chance : PySem.W.codeIn K cd_Even_chance "Even.chance" = true)
    (k_Even_chance : PySem.W.keepIn K (.ref f_Even_chance) = true)
    (a_Even_seen : PySem.W.findIn K (.ref C_Even) "seen" = some (some (.ref f_Even_seen)))
    (i_Even_seen : PySem.W.isFn K (.ref f_Even_seen) = true)
    (l_Even_seen : K.lookup f_Even_seen = some ⟨oc_Even_seen, od_Even_seen, .func (PySem.W.fnOf "seen" "Even.seen" (defArgs s_Even_seen) (defBody s_Even_seen) (defScope s_Even_seen) .none kV_Even_seen dc_Even_seen pm_Even_seen an_Even_seen cd_Even_seen ct_Even_seen), sl_Even_seen⟩)
    (c_Even_seen : PySem.W.codeIn K cd_Even_seen "Even.seen" = true)
    (k_Even_seen : PySem.W.keepIn K (.ref f_Even_seen) = true)
    (a_Quick___init__ : PySem.W.findIn K (.ref C_Quick) "__init__" = some (some (.ref f_Quick___init__)))
    (i_Quick___init__ : PySem.W.isFn K (.ref f_Quick___init__) = true)
    (l_Quick___init__ : K.lookup f_Quick___init__ = some ⟨oc_Quick___init__, od_Quick___init__, .func (PySem.W.fnOf "__init__" "Quick.__init__" (defArgs s_Quick___init__) (defBody s_Quick___init__) (defScope s_Quick___init__) .none kV_Quick___init__ dc_Quick___init__ pm_Quick___init__ an_Quick___init__ cd_Quick___init__ ct_Quick___init__), sl_Quick___init__⟩)
    (c_Quick___init__ : PySem.W.codeIn K cd_Quick___init__ "Quick.__init__" = true)
    (k_Quick___init__ : PySem.W.keepIn K (.ref f_Quick___init__) = true)
    (a_Quick_chance : PySem.W.findIn K (.ref C_Quick) "chance" = some (some (.ref f_Quick_chance)))
    (i_Quick_chance : PySem.W.isFn K (.ref f_Quick_chance) = true)
    (l_Quick_chance : K.lookup f_Quick_chance = some ⟨oc_Quick_chance, od_Quick_chance, .func (PySem.W.fnOf "chance" "Quick.chance" (defArgs s_Quick_chance) (defBody s_Quick_chance) (defScope s_Quick_chance) .none kV_Quick_chance dc_Quick_chance pm_Quick_chance an_Quick_chance cd_Quick_chance ct_Quick_chance), sl_Quick_chance⟩)
    (c_Quick_chance : PySem.W.codeIn K cd_Quick_chance "Quick.chance" = true)
    (k_Quick_chance : PySem.W.keepIn K (.ref f_Quick_chance) = true)
    (a_Quick_seen : PySem.W.findIn K (.ref C_Quick) "seen" = some (some (.ref f_Quick_seen)))
    (i_Quick_seen : PySem.W.isFn K (.ref f_Quick_seen) = true)
    (l_Quick_seen : K.lookup f_Quick_seen = some ⟨oc_Quick_seen, od_Quick_seen, .func (PySem.W.fnOf "seen" "Quick.seen" (defArgs s_Quick_seen) (defBody s_Quick_seen) (defScope s_Quick_seen) .none kV_Quick_seen dc_Quick_seen pm_Quick_seen an_Quick_seen cd_Quick_seen ct_Quick_seen), sl_Quick_seen⟩)
    (c_Quick_seen : PySem.W.codeIn K cd_Quick_seen "Quick.seen" = true)
    (k_Quick_seen : PySem.W.keepIn K (.ref f_Quick_seen) = true)
    (a_Run___init__ : PySem.W.findIn K (.ref C_Run) "__init__" = some (some (.ref f_Run___init__)))
    (i_Run___init__ : PySem.W.isFn K (.ref f_Run___init__) = true)
    (l_Run___init__ : K.lookup f_Run___init__ = some ⟨oc_Run___init__, od_Run___init__, .func (PySem.W.fnOf "__init__" "Run.__init__" (defArgs s_Run___init__) (defBody s_Run___init__) (defScope s_Run___init__) .none kV_Run___init__ dc_Run___init__ pm_Run___init__ an_Run___init__ cd_Run___init__ ct_Run___init__), sl_Run___init__⟩)
    (c_Run___init__ : PySem.W.codeIn K cd_Run___init__ "Run.__init__" = true)
    (k_Run___init__ : PySem.W.keepIn K (.ref f_Run___init__) = true)
    (a_Run_chance : PySem.W.findIn K (.ref C_Run) "chance" = some (some (.ref f_Run_chance)))
    (i_Run_chance : PySem.W.isFn K (.ref f_Run_chance) = true)
    (l_Run_chance : K.lookup f_Run_chance = some ⟨oc_Run_chance, od_Run_chance, .func (PySem.W.fnOf "chance" "Run.chance" (defArgs s_Run_chance) (defBody s_Run_chance) (defScope s_Run_chance) .none kV_Run_chance dc_Run_chance pm_Run_chance an_Run_chance cd_Run_chance ct_Run_chance), sl_Run_chance⟩)
    (c_Run_chance : PySem.W.codeIn K cd_Run_chance "Run.chance" = true)
    (k_Run_chance : PySem.W.keepIn K (.ref f_Run_chance) = true)
    (a_Run_seen : PySem.W.findIn K (.ref C_Run) "seen" = some (some (.ref f_Run_seen)))
    (i_Run_seen : PySem.W.isFn K (.ref f_Run_seen) = true)
    (l_Run_seen : K.lookup f_Run_seen = some ⟨oc_Run_seen, od_Run_seen, .func (PySem.W.fnOf "seen" "Run.seen" (defArgs s_Run_seen) (defBody s_Run_seen) (defScope s_Run_seen) .none kV_Run_seen dc_Run_seen pm_Run_seen an_Run_seen cd_Run_seen ct_Run_seen), sl_Run_seen⟩)
    (c_Run_seen : PySem.W.codeIn K cd_Run_seen "Run.seen" = true)
    (k_Run_seen : PySem.W.keepIn K (.ref f_Run_seen) = true)
    (a_slot_of : PySem.W.nsIn K mainGlobals "slot_of" = some (some (.ref f_slot_of)))
    (l_slot_of : K.lookup f_slot_of = some ⟨oc_slot_of, od_slot_of, .func (PySem.W.fnOf "slot_of" "slot_of" (defArgs s_slot_of) (defBody s_slot_of) (defScope s_slot_of) .none kV_slot_of dc_slot_of pm_slot_of an_slot_of cd_slot_of ct_slot_of), sl_slot_of⟩)
    (c_slot_of : PySem.W.codeIn K cd_slot_of "slot_of" = true)
    (k_slot_of : PySem.W.keepIn K (.ref f_slot_of) = true)
    (a_sign_back : PySem.W.nsIn K mainGlobals "sign_back" = some (some (.ref f_sign_back)))
    (l_sign_back : K.lookup f_sign_back = some ⟨oc_sign_back, od_sign_back, .func (PySem.W.fnOf "sign_back" "sign_back" (defArgs s_sign_back) (defBody s_sign_back) (defScope s_sign_back) .none kV_sign_back dc_sign_back pm_sign_back an_sign_back cd_sign_back ct_sign_back), sl_sign_back⟩)
    (c_sign_back : PySem.W.codeIn K cd_sign_back "sign_back" = true)
    (k_sign_back : PySem.W.keepIn K (.ref f_sign_back) = true)
    (a_context_of : PySem.W.nsIn K mainGlobals "context_of" = some (some (.ref f_context_of)))
    (l_context_of : K.lookup f_context_of = some ⟨oc_context_of, od_context_of, .func (PySem.W.fnOf "context_of" "context_of" (defArgs s_context_of) (defBody s_context_of) (defScope s_context_of) .none kV_context_of dc_context_of pm_context_of an_context_of cd_context_of ct_context_of), sl_context_of⟩)
    (c_context_of : PySem.W.codeIn K cd_context_of "context_of" = true)
    (k_context_of : PySem.W.keepIn K (.ref f_context_of) = true)
    (a_Book___init__ : PySem.W.findIn K (.ref C_Book) "__init__" = some (some (.ref f_Book___init__)))
    (i_Book___init__ : PySem.W.isFn K (.ref f_Book___init__) = true)
    (l_Book___init__ : K.lookup f_Book___init__ = some ⟨oc_Book___init__, od_Book___init__, .func (PySem.W.fnOf "__init__" "Book.__init__" (defArgs s_Book___init__) (defBody s_Book___init__) (defScope s_Book___init__) .none kV_Book___init__ dc_Book___init__ pm_Book___init__ an_Book___init__ cd_Book___init__ ct_Book___init__), sl_Book___init__⟩)
    (c_Book___init__ : PySem.W.codeIn K cd_Book___init__ "Book.__init__" = true)
    (k_Book___init__ : PySem.W.keepIn K (.ref f_Book___init__) = true)
    (a_Book_chance : PySem.W.findIn K (.ref C_Book) "chance" = some (some (.ref f_Book_chance)))
    (i_Book_chance : PySem.W.isFn K (.ref f_Book_chance) = true)
    (l_Book_chance : K.lookup f_Book_chance = some ⟨oc_Book_chance, od_Book_chance, .func (PySem.W.fnOf "chance" "Book.chance" (defArgs s_Book_chance) (defBody s_Book_chance) (defScope s_Book_chance) .none kV_Book_chance dc_Book_chance pm_Book_chance an_Book_chance cd_Book_chance ct_Book_chance), sl_Book_chance⟩)
    (c_Book_chance : PySem.W.codeIn K cd_Book_chance "Book.chance" = true)
    (k_Book_chance : PySem.W.keepIn K (.ref f_Book_chance) = true)
    (a_Book_slot_at : PySem.W.findIn K (.ref C_Book) "slot_at" = some (some (.ref f_Book_slot_at)))
    (i_Book_slot_at : PySem.W.isFn K (.ref f_Book_slot_at) = true)
    (l_Book_slot_at : K.lookup f_Book_slot_at = some ⟨oc_Book_slot_at, od_Book_slot_at, .func (PySem.W.fnOf "slot_at" "Book.slot_at" (defArgs s_Book_slot_at) (defBody s_Book_slot_at) (defScope s_Book_slot_at) .none kV_Book_slot_at dc_Book_slot_at pm_Book_slot_at an_Book_slot_at cd_Book_slot_at ct_Book_slot_at), sl_Book_slot_at⟩)
    (c_Book_slot_at : PySem.W.codeIn K cd_Book_slot_at "Book.slot_at" = true)
    (k_Book_slot_at : PySem.W.keepIn K (.ref f_Book_slot_at) = true)
    (a_Book_seen : PySem.W.findIn K (.ref C_Book) "seen" = some (some (.ref f_Book_seen)))
    (i_Book_seen : PySem.W.isFn K (.ref f_Book_seen) = true)
    (l_Book_seen : K.lookup f_Book_seen = some ⟨oc_Book_seen, od_Book_seen, .func (PySem.W.fnOf "seen" "Book.seen" (defArgs s_Book_seen) (defBody s_Book_seen) (defScope s_Book_seen) .none kV_Book_seen dc_Book_seen pm_Book_seen an_Book_seen cd_Book_seen ct_Book_seen), sl_Book_seen⟩)
    (c_Book_seen : PySem.W.codeIn K cd_Book_seen "Book.seen" = true)
    (k_Book_seen : PySem.W.keepIn K (.ref f_Book_seen) = true)
    (a__law_cell_at : PySem.W.nsIn K mainGlobals "_law_cell_at" = some (some (.ref f__law_cell_at)))
    (l__law_cell_at : K.lookup f__law_cell_at = some ⟨oc__law_cell_at, od__law_cell_at, .func (PySem.W.fnOf "_law_cell_at" "_law_cell_at" (defArgs s__law_cell_at) (defBody s__law_cell_at) (defScope s__law_cell_at) .none kV__law_cell_at dc__law_cell_at pm__law_cell_at an__law_cell_at cd__law_cell_at ct__law_cell_at), sl__law_cell_at⟩)
    (c__law_cell_at : PySem.W.codeIn K cd__law_cell_at "_law_cell_at" = true)
    (k__law_cell_at : PySem.W.keepIn K (.ref f__law_cell_at) = true)
    (a__law_whole : PySem.W.nsIn K mainGlobals "_law_whole" = some (some (.ref f__law_whole)))
    (l__law_whole : K.lookup f__law_whole = some ⟨oc__law_whole, od__law_whole, .func (PySem.W.fnOf "_law_whole" "_law_whole" (defArgs s__law_whole) (defBody s__law_whole) (defScope s__law_whole) .none kV__law_whole dc__law_whole pm__law_whole an__law_whole cd__law_whole ct__law_whole), sl__law_whole⟩)
    (c__law_whole : PySem.W.codeIn K cd__law_whole "_law_whole" = true)
    (k__law_whole : PySem.W.keepIn K (.ref f__law_whole) = true)
    (a__law_places : PySem.W.nsIn K mainGlobals "_law_places" = some (some (.ref f__law_places)))
    (l__law_places : K.lookup f__law_places = some ⟨oc__law_places, od__law_places, .func (PySem.W.fnOf "_law_places" "_law_places" (defArgs s__law_places) (defBody s__law_places) (defScope s__law_places) .none kV__law_places dc__law_places pm__law_places an__law_places cd__law_places ct__law_places), sl__law_places⟩)
    (c__law_places : PySem.W.codeIn K cd__law_places "_law_places" = true)
    (k__law_places : PySem.W.keepIn K (.ref f__law_places) = true)
    (a__law_look : PySem.W.nsIn K mainGlobals "_law_look" = some (some (.ref f__law_look)))
    (l__law_look : K.lookup f__law_look = some ⟨oc__law_look, od__law_look, .func (PySem.W.fnOf "_law_look" "_law_look" (defArgs s__law_look) (defBody s__law_look) (defScope s__law_look) .none kV__law_look dc__law_look pm__law_look an__law_look cd__law_look ct__law_look), sl__law_look⟩)
    (c__law_look : PySem.W.codeIn K cd__law_look "_law_look" = true)
    (k__law_look : PySem.W.keepIn K (.ref f__law_look) = true)
    (a__law_seen : PySem.W.nsIn K mainGlobals "_law_seen" = some (some (.ref f__law_seen)))
    (l__law_seen : K.lookup f__law_seen = some ⟨oc__law_seen, od__law_seen, .func (PySem.W.fnOf "_law_seen" "_law_seen" (defArgs s__law_seen) (defBody s__law_seen) (defScope s__law_seen) .none kV__law_seen dc__law_seen pm__law_seen an__law_seen cd__law_seen ct__law_seen), sl__law_seen⟩)
    (c__law_seen : PySem.W.codeIn K cd__law_seen "_law_seen" = true)
    (k__law_seen : PySem.W.keepIn K (.ref f__law_seen) = true)
    (a__law_due : PySem.W.nsIn K mainGlobals "_law_due" = some (some (.ref f__law_due)))
    (l__law_due : K.lookup f__law_due = some ⟨oc__law_due, od__law_due, .func (PySem.W.fnOf "_law_due" "_law_due" (defArgs s__law_due) (defBody s__law_due) (defScope s__law_due) .none kV__law_due dc__law_due pm__law_due an__law_due cd__law_due ct__law_due), sl__law_due⟩)
    (c__law_due : PySem.W.codeIn K cd__law_due "_law_due" = true)
    (k__law_due : PySem.W.keepIn K (.ref f__law_due) = true)
    (a__law_decisions : PySem.W.nsIn K mainGlobals "_law_decisions" = some (some (.ref f__law_decisions)))
    (l__law_decisions : K.lookup f__law_decisions = some ⟨oc__law_decisions, od__law_decisions, .func (PySem.W.fnOf "_law_decisions" "_law_decisions" (defArgs s__law_decisions) (defBody s__law_decisions) (defScope s__law_decisions) .none kV__law_decisions dc__law_decisions pm__law_decisions an__law_decisions cd__law_decisions ct__law_decisions), sl__law_decisions⟩)
    (c__law_decisions : PySem.W.codeIn K cd__law_decisions "_law_decisions" = true)
    (k__law_decisions : PySem.W.keepIn K (.ref f__law_decisions) = true)
    (a__law_context : PySem.W.nsIn K mainGlobals "_law_context" = some (some (.ref f__law_context)))
    (l__law_context : K.lookup f__law_context = some ⟨oc__law_context, od__law_context, .func (PySem.W.fnOf "_law_context" "_law_context" (defArgs s__law_context) (defBody s__law_context) (defScope s__law_context) .none kV__law_context dc__law_context pm__law_context an__law_context cd__law_context ct__law_context), sl__law_context⟩)
    (c__law_context : PySem.W.codeIn K cd__law_context "_law_context" = true)
    (k__law_context : PySem.W.keepIn K (.ref f__law_context) = true)
    (a__law_right : PySem.W.nsIn K mainGlobals "_law_right" = some (some (.ref f__law_right)))
    (l__law_right : K.lookup f__law_right = some ⟨oc__law_right, od__law_right, .func (PySem.W.fnOf "_law_right" "_law_right" (defArgs s__law_right) (defBody s__law_right) (defScope s__law_right) .none kV__law_right dc__law_right pm__law_right an__law_right cd__law_right ct__law_right), sl__law_right⟩)
    (c__law_right : PySem.W.codeIn K cd__law_right "_law_right" = true)
    (k__law_right : PySem.W.keepIn K (.ref f__law_right) = true)
    (a__law_refused : PySem.W.nsIn K mainGlobals "_law_refused" = some (some (.ref f__law_refused)))
    (l__law_refused : K.lookup f__law_refused = some ⟨oc__law_refused, od__law_refused, .func (PySem.W.fnOf "_law_refused" "_law_refused" (defArgs s__law_refused) (defBody s__law_refused) (defScope s__law_refused) .none kV__law_refused dc__law_refused pm__law_refused an__law_refused cd__law_refused ct__law_refused), sl__law_refused⟩)
    (c__law_refused : PySem.W.codeIn K cd__law_refused "_law_refused" = true)
    (k__law_refused : PySem.W.keepIn K (.ref f__law_refused) = true)
    (a__law_walked : PySem.W.nsIn K mainGlobals "_law_walked" = some (some (.ref f__law_walked)))
    (l__law_walked : K.lookup f__law_walked = some ⟨oc__law_walked, od__law_walked, .func (PySem.W.fnOf "_law_walked" "_law_walked" (defArgs s__law_walked) (defBody s__law_walked) (defScope s__law_walked) .none kV__law_walked dc__law_walked pm__law_walked an__law_walked cd__law_walked ct__law_walked), sl__law_walked⟩)
    (c__law_walked : PySem.W.codeIn K cd__law_walked "_law_walked" = true)
    (k__law_walked : PySem.W.keepIn K (.ref f__law_walked) = true)
    (a__law_bits : PySem.W.nsIn K mainGlobals "_law_bits" = some (some (.ref f__law_bits)))
    (l__law_bits : K.lookup f__law_bits = some ⟨oc__law_bits, od__law_bits, .func (PySem.W.fnOf "_law_bits" "_law_bits" (defArgs s__law_bits) (defBody s__law_bits) (defScope s__law_bits) .none kV__law_bits dc__law_bits pm__law_bits an__law_bits cd__law_bits ct__law_bits), sl__law_bits⟩)
    (c__law_bits : PySem.W.codeIn K cd__law_bits "_law_bits" = true)
    (k__law_bits : PySem.W.keepIn K (.ref f__law_bits) = true)
    (a__law_long : PySem.W.nsIn K mainGlobals "_law_long" = some (some (.ref f__law_long)))
    (l__law_long : K.lookup f__law_long = some ⟨oc__law_long, od__law_long, .func (PySem.W.fnOf "_law_long" "_law_long" (defArgs s__law_long) (defBody s__law_long) (defScope s__law_long) .none kV__law_long dc__law_long pm__law_long an__law_long cd__law_long ct__law_long), sl__law_long⟩)
    (c__law_long : PySem.W.codeIn K cd__law_long "_law_long" = true)
    (k__law_long : PySem.W.keepIn K (.ref f__law_long) = true)
    (a_law : PySem.W.nsIn K mainGlobals "law" = some (some (.ref f_law)))
    (l_law : K.lookup f_law = some ⟨oc_law, od_law, .func (PySem.W.fnOf "law" "law" (defArgs s_law) (defBody s_law) (defScope s_law) .none kV_law dc_law pm_law an_law cd_law ct_law), sl_law⟩)
    (c_law : PySem.W.codeIn K cd_law "law" = true)
    (k_law : PySem.W.keepIn K (.ref f_law) = true)
    (pg_Even : PySem.W.plainGet K C_Even Str.empty = true)
    (hd_Even : PySem.W.hasDictIn K C_Even = true)
    (po_Even : PySem.W.plainOver K C_Even = true)
    (sa_Even : PySem.W.findIn K (.ref C_Even) "__setattr__" = some (some (.builtin "object.__setattr__")))
    (mk_Even : PySem.W.makesIn K C_Even = true)
    (kc_Even : PySem.W.keepIn K (.ref C_Even) = true)
    (n_Even_noughts : PySem.W.findIn K (.ref C_Even) "noughts" = some none)
    (n_Even_ones : PySem.W.findIn K (.ref C_Even) "ones" = some none)
    (pg_Quick : PySem.W.plainGet K C_Quick Str.empty = true)
    (hd_Quick : PySem.W.hasDictIn K C_Quick = true)
    (po_Quick : PySem.W.plainOver K C_Quick = true)
    (sa_Quick : PySem.W.findIn K (.ref C_Quick) "__setattr__" = some (some (.builtin "object.__setattr__")))
    (mk_Quick : PySem.W.makesIn K C_Quick = true)
    (kc_Quick : PySem.W.keepIn K (.ref C_Quick) = true)
    (n_Quick_held : PySem.W.findIn K (.ref C_Quick) "held" = some none)
    (pg_Run : PySem.W.plainGet K C_Run Str.empty = true)
    (hd_Run : PySem.W.hasDictIn K C_Run = true)
    (po_Run : PySem.W.plainOver K C_Run = true)
    (sa_Run : PySem.W.findIn K (.ref C_Run) "__setattr__" = some (some (.builtin "object.__setattr__")))
    (mk_Run : PySem.W.makesIn K C_Run = true)
    (kc_Run : PySem.W.keepIn K (.ref C_Run) = true)
    (n_Run_last : PySem.W.findIn K (.ref C_Run) "last" = some none)
    (n_Run_length : PySem.W.findIn K (.ref C_Run) "length" = some none)
    (pg_Slot : PySem.W.plainGet K C_Slot Str.empty = true)
    (hd_Slot : PySem.W.hasDictIn K C_Slot = true)
    (po_Slot : PySem.W.plainOver K C_Slot = true)
    (sa_Slot : PySem.W.findIn K (.ref C_Slot) "__setattr__" = some (some (.builtin "object.__setattr__")))
    (mk_Slot : PySem.W.makesIn K C_Slot = true)
    (oi_Slot : PySem.W.findIn K (.ref C_Slot) "__init__" = some (some (.builtin "object.__init__")))
    (kc_Slot : PySem.W.keepIn K (.ref C_Slot) = true)
    (pg_Book : PySem.W.plainGet K C_Book Str.empty = true)
    (hd_Book : PySem.W.hasDictIn K C_Book = true)
    (po_Book : PySem.W.plainOver K C_Book = true)
    (sa_Book : PySem.W.findIn K (.ref C_Book) "__setattr__" = some (some (.builtin "object.__setattr__")))
    (mk_Book : PySem.W.makesIn K C_Book = true)
    (kc_Book : PySem.W.keepIn K (.ref C_Book) = true)
    (n_Book_look : PySem.W.findIn K (.ref C_Book) "look" = some none)
    (n_Book_slots : PySem.W.findIn K (.ref C_Book) "slots" = some none)
    (xcl_NoBit : PySem.W.hasDictIn K C_NoBit = true)
    (xga_NoBit : PySem.W.findIn K (.ref C_NoBit) "__getattribute__" = some (some (.builtin "BaseException.__getattribute__")))
    (xgt_NoBit : PySem.W.findIn K (.ref C_NoBit) "__getattr__" = some none)
    (xca_NoBit : PySem.W.findIn K (.ref C_NoBit) "__class__" = some (some (.builtin "object.__class__")))
    (xmo_NoBit : PySem.W.mroIn K C_NoBit (.type "object") = some true)
    (xmb_NoBit : PySem.W.mroIn K C_NoBit (.type "BaseException") = some true)
    (r_NoBit : PySem.W.excIn K C_NoBit [.type "ValueError", .type "Exception", .type "BaseException", .type "object"] "ValueError.__new__" = true)
    (xgg : PySem.W.specialIn K (.builtin "object.__class__") "__get__" = some (some (.builtin "getset_descriptor.__get__")))
    (xtk : PySem.W.takesIn K (.builtin "object.__class__") = some true)
    (eb_ForetellError : PySem.W.subIn K (.ref C_ForetellError) (.type "BaseException") = some true)
    (ed_ForetellError : PySem.W.hasDictIn K C_ForetellError = true)
    (et_ForetellError : PySem.W.typeIn K (.ref C_ForetellError) = some (.type "type"))
    (em_NoBit_ForetellError : PySem.W.subIn K (.ref C_NoBit) (.ref C_ForetellError) = some true)
    (ki_NoBit_NoText : PySem.W.kitOne K (.ref C_NoBit) (.ref C_NoText) = some false)
    (ki_NoBit_ValueError : PySem.W.kitOne K (.ref C_NoBit) (.type "ValueError") = some true)
    (ki_NoBit_NoBit : PySem.W.kitOne K (.ref C_NoBit) (.ref C_NoBit) = some true)
    (z_isinstance : PySem.W.nsIn K mainGlobals "isinstance" = some none)
    (z_int : PySem.W.nsIn K mainGlobals "int" = some none)
    (z_bool : PySem.W.nsIn K mainGlobals "bool" = some none)
    (z_min : PySem.W.nsIn K mainGlobals "min" = some none)
    (z_max : PySem.W.nsIn K mainGlobals "max" = some none)
    (z_len : PySem.W.nsIn K mainGlobals "len" = some none)
    (z_tuple : PySem.W.nsIn K mainGlobals "tuple" = some none)
    (z_range : PySem.W.nsIn K mainGlobals "range" = some none)
    (z_list : PySem.W.nsIn K mainGlobals "list" = some none)
    (z_ValueError : PySem.W.nsIn K mainGlobals "ValueError" = some none)
    (z_enumerate : PySem.W.nsIn K mainGlobals "enumerate" = some none)
    (v_ONE : PySem.W.nsIn K mainGlobals "ONE" = some (some (.int 16777216 t_ONE)))
    (v_MOST_COUNTED : PySem.W.nsIn K mainGlobals "MOST_COUNTED" = some (some (.int 255 t_MOST_COUNTED)))
    (v_LEAST : PySem.W.nsIn K mainGlobals "LEAST" = some (some (.int 32768 t_LEAST)))
    (v_NO_SIGN : PySem.W.nsIn K mainGlobals "NO_SIGN" = some (some (.int 256 t_NO_SIGN)))
    : ∃ fd : FuncData, (∀ (s : Shared) (v : Value), BindsTo s fd ⟨[v], []⟩ [("_law_script", v)]) ∧ ∀ base : Heap, K.In base → base.Ns mainGlobals mg → FnOk l.prog w K mg base CX0 8 fa fd ["_law_script"] (sp_law K) := by
  have e := hfa.symm.trans (PySem.W.mg_of X G a_law)
  cases e
  have F_is_whole := fun_mk (st := s_is_whole) l_is_whole c_is_whole k_is_whole
  have F_is_bit := fun_mk (st := s_is_bit) l_is_bit c_is_bit k_is_bit
  have F_check_bit := fun_mk (st := s_check_bit) l_check_bit c_check_bit k_check_bit
  have F_Slot_chance := fun_mk (st := s_Slot_chance) l_Slot_chance c_Slot_chance k_Slot_chance
  have F_Even___init__ := fun_mk (st := s_Even___init__) l_Even___init__ c_Even___init__ k_Even___init__
  have F_Even_chance := fun_mk (st := s_Even_chance) l_Even_chance c_Even_chance k_Even_chance
  have F_Even_seen := fun_mk (st := s_Even_seen) l_Even_seen c_Even_seen k_Even_seen
  have F_Quick___init__ := fun_mk (st := s_Quick___init__) l_Quick___init__ c_Quick___init__ k_Quick___init__
  have F_Quick_chance := fun_mk (st := s_Quick_chance) l_Quick_chance c_Quick_chance k_Quick_chance
  have F_Quick_seen := fun_mk (st := s_Quick_seen) l_Quick_seen c_Quick_seen k_Quick_seen
  have F_Run___init__ := fun_mk (st := s_Run___init__) l_Run___init__ c_Run___init__ k_Run___init__
  have F_Run_chance := fun_mk (st := s_Run_chance) l_Run_chance c_Run_chance k_Run_chance
  have F_Run_seen := fun_mk (st := s_Run_seen) l_Run_seen c_Run_seen k_Run_seen
  have F_slot_of := fun_mk (st := s_slot_of) l_slot_of c_slot_of k_slot_of
  have F_sign_back := fun_mk (st := s_sign_back) l_sign_back c_sign_back k_sign_back
  have F_context_of := fun_mk (st := s_context_of) l_context_of c_context_of k_context_of
  have F_Book___init__ := fun_mk (st := s_Book___init__) l_Book___init__ c_Book___init__ k_Book___init__
  have F_Book_chance := fun_mk (st := s_Book_chance) l_Book_chance c_Book_chance k_Book_chance
  have F_Book_slot_at := fun_mk (st := s_Book_slot_at) l_Book_slot_at c_Book_slot_at k_Book_slot_at
  have F_Book_seen := fun_mk (st := s_Book_seen) l_Book_seen c_Book_seen k_Book_seen
  have F__law_cell_at := fun_mk (st := s__law_cell_at) l__law_cell_at c__law_cell_at k__law_cell_at
  have F__law_whole := fun_mk (st := s__law_whole) l__law_whole c__law_whole k__law_whole
  have F__law_places := fun_mk (st := s__law_places) l__law_places c__law_places k__law_places
  have F__law_look := fun_mk (st := s__law_look) l__law_look c__law_look k__law_look
  have F__law_seen := fun_mk (st := s__law_seen) l__law_seen c__law_seen k__law_seen
  have F__law_due := fun_mk (st := s__law_due) l__law_due c__law_due k__law_due
  have F__law_decisions := fun_mk (st := s__law_decisions) l__law_decisions c__law_decisions k__law_decisions
  have F__law_context := fun_mk (st := s__law_context) l__law_context c__law_context k__law_context
  have F__law_right := fun_mk (st := s__law_right) l__law_right c__law_right k__law_right
  have F__law_refused := fun_mk (st := s__law_refused) l__law_refused c__law_refused k__law_refused
  have F__law_walked := fun_mk (st := s__law_walked) l__law_walked c__law_walked k__law_walked
  have F__law_bits := fun_mk (st := s__law_bits) l__law_bits c__law_bits k__law_bits
  have F__law_long := fun_mk (st := s__law_long) l__law_long c__law_long k__law_long
  have F_law := fun_mk (st := s_law) l_law c_law k_law
  have T : Txt K mg { f_is_whole := f_is_whole, d_is_whole := PySem.W.fnOf "is_whole" "is_whole" (defArgs s_is_whole) (defBody s_is_whole) (defScope s_is_whole) .none kV_is_whole dc_is_whole pm_is_whole an_is_whole cd_is_whole ct_is_whole, f_is_bit := f_is_bit, d_is_bit := PySem.W.fnOf "is_bit" "is_bit" (defArgs s_is_bit) (defBody s_is_bit) (defScope s_is_bit) .none kV_is_bit dc_is_bit pm_is_bit an_is_bit cd_is_bit ct_is_bit, f_check_bit := f_check_bit, d_check_bit := PySem.W.fnOf "check_bit" "check_bit" (defArgs s_check_bit) (defBody s_check_bit) (defScope s_check_bit) .none kV_check_bit dc_check_bit pm_check_bit an_check_bit cd_check_bit ct_check_bit, f_Slot_chance := f_Slot_chance, d_Slot_chance := PySem.W.fnOf "chance" "Slot.chance" (defArgs s_Slot_chance) (defBody s_Slot_chance) (defScope s_Slot_chance) .none kV_Slot_chance dc_Slot_chance pm_Slot_chance an_Slot_chance cd_Slot_chance ct_Slot_chance, f_Even___init__ := f_Even___init__, d_Even___init__ := PySem.W.fnOf "__init__" "Even.__init__" (defArgs s_Even___init__) (defBody s_Even___init__) (defScope s_Even___init__) .none kV_Even___init__ dc_Even___init__ pm_Even___init__ an_Even___init__ cd_Even___init__ ct_Even___init__, f_Even_chance := f_Even_chance, d_Even_chance := PySem.W.fnOf "chance" "Even.chance" (defArgs s_Even_chance) (defBody s_Even_chance) (defScope s_Even_chance) .none kV_Even_chance dc_Even_chance pm_Even_chance an_Even_chance cd_Even_chance ct_Even_chance, f_Even_seen := f_Even_seen, d_Even_seen := PySem.W.fnOf "seen" "Even.seen" (defArgs s_Even_seen) (defBody s_Even_seen) (defScope s_Even_seen) .none kV_Even_seen dc_Even_seen pm_Even_seen an_Even_seen cd_Even_seen ct_Even_seen, f_Quick___init__ := f_Quick___init__, d_Quick___init__ := PySem.W.fnOf "__init__" "Quick.__init__" (defArgs s_Quick___init__) (defBody s_Quick___init__) (defScope s_Quick___init__) .none kV_Quick___init__ dc_Quick___init__ pm_Quick___init__ an_Quick___init__ cd_Quick___init__ ct_Quick___init__, f_Quick_chance := f_Quick_chance, d_Quick_chance := PySem.W.fnOf "chance" "Quick.chance" (defArgs s_Quick_chance) (defBody s_Quick_chance) (defScope s_Quick_chance) .none kV_Quick_chance dc_Quick_chance pm_Quick_chance an_Quick_chance cd_Quick_chance ct_Quick_chance, f_Quick_seen := f_Quick_seen, d_Quick_seen := PySem.W.fnOf "seen" "Quick.seen" (defArgs s_Quick_seen) (defBody s_Quick_seen) (defScope s_Quick_seen) .none kV_Quick_seen dc_Quick_seen pm_Quick_seen an_Quick_seen cd_Quick_seen ct_Quick_seen, f_Run___init__ := f_Run___init__, d_Run___init__ := PySem.W.fnOf "__init__" "Run.__init__" (defArgs s_Run___init__) (defBody s_Run___init__) (defScope s_Run___init__) .none kV_Run___init__ dc_Run___init__ pm_Run___init__ an_Run___init__ cd_Run___init__ ct_Run___init__, f_Run_chance := f_Run_chance, d_Run_chance := PySem.W.fnOf "chance" "Run.chance" (defArgs s_Run_chance) (defBody s_Run_chance) (defScope s_Run_chance) .none kV_Run_chance dc_Run_chance pm_Run_chance an_Run_chance cd_Run_chance ct_Run_chance, f_Run_seen := f_Run_seen, d_Run_seen := PySem.W.fnOf "seen" "Run.seen" (defArgs s_Run_seen) (defBody s_Run_seen) (defScope s_Run_seen) .none kV_Run_seen dc_Run_seen pm_Run_seen an_Run_seen cd_Run_seen ct_Run_seen, f_slot_of := f_slot_of, d_slot_of := PySem.W.fnOf "slot_of" "slot_of" (defArgs s_slot_of) (defBody s_slot_of) (defScope s_slot_of) .none kV_slot_of dc_slot_of pm_slot_of an_slot_of cd_slot_of ct_slot_of, f_sign_back := f_sign_back, d_sign_back := PySem.W.fnOf "sign_back" "sign_back" (defArgs s_sign_back) (defBody s_sign_back) (defScope s_sign_back) .none kV_sign_back dc_sign_back pm_sign_back an_sign_back cd_sign_back ct_sign_back, f_context_of := f_context_of, d_context_of := PySem.W.fnOf "context_of" "context_of" (defArgs s_context_of) (defBody s_context_of) (defScope s_context_of) .none kV_context_of dc_context_of pm_context_of an_context_of cd_context_of ct_context_of, f_Book___init__ := f_Book___init__, d_Book___init__ := PySem.W.fnOf "__init__" "Book.__init__" (defArgs s_Book___init__) (defBody s_Book___init__) (defScope s_Book___init__) .none kV_Book___init__ dc_Book___init__ pm_Book___init__ an_Book___init__ cd_Book___init__ ct_Book___init__, f_Book_chance := f_Book_chance, d_Book_chance := PySem.W.fnOf "chance" "Book.chance" (defArgs s_Book_chance) (defBody s_Book_chance) (defScope s_Book_chance) .none kV_Book_chance dc_Book_chance pm_Book_chance an_Book_chance cd_Book_chance ct_Book_chance, f_Book_slot_at := f_Book_slot_at, d_Book_slot_at := PySem.W.fnOf "slot_at" "Book.slot_at" (defArgs s_Book_slot_at) (defBody s_Book_slot_at) (defScope s_Book_slot_at) .none kV_Book_slot_at dc_Book_slot_at pm_Book_slot_at an_Book_slot_at cd_Book_slot_at ct_Book_slot_at, f_Book_seen := f_Book_seen, d_Book_seen := PySem.W.fnOf "seen" "Book.seen" (defArgs s_Book_seen) (defBody s_Book_seen) (defScope s_Book_seen) .none kV_Book_seen dc_Book_seen pm_Book_seen an_Book_seen cd_Book_seen ct_Book_seen, f__law_cell_at := f__law_cell_at, d__law_cell_at := PySem.W.fnOf "_law_cell_at" "_law_cell_at" (defArgs s__law_cell_at) (defBody s__law_cell_at) (defScope s__law_cell_at) .none kV__law_cell_at dc__law_cell_at pm__law_cell_at an__law_cell_at cd__law_cell_at ct__law_cell_at, f__law_whole := f__law_whole, d__law_whole := PySem.W.fnOf "_law_whole" "_law_whole" (defArgs s__law_whole) (defBody s__law_whole) (defScope s__law_whole) .none kV__law_whole dc__law_whole pm__law_whole an__law_whole cd__law_whole ct__law_whole, f__law_places := f__law_places, d__law_places := PySem.W.fnOf "_law_places" "_law_places" (defArgs s__law_places) (defBody s__law_places) (defScope s__law_places) .none kV__law_places dc__law_places pm__law_places an__law_places cd__law_places ct__law_places, f__law_look := f__law_look, d__law_look := PySem.W.fnOf "_law_look" "_law_look" (defArgs s__law_look) (defBody s__law_look) (defScope s__law_look) .none kV__law_look dc__law_look pm__law_look an__law_look cd__law_look ct__law_look, f__law_seen := f__law_seen, d__law_seen := PySem.W.fnOf "_law_seen" "_law_seen" (defArgs s__law_seen) (defBody s__law_seen) (defScope s__law_seen) .none kV__law_seen dc__law_seen pm__law_seen an__law_seen cd__law_seen ct__law_seen, f__law_due := f__law_due, d__law_due := PySem.W.fnOf "_law_due" "_law_due" (defArgs s__law_due) (defBody s__law_due) (defScope s__law_due) .none kV__law_due dc__law_due pm__law_due an__law_due cd__law_due ct__law_due, f__law_decisions := f__law_decisions, d__law_decisions := PySem.W.fnOf "_law_decisions" "_law_decisions" (defArgs s__law_decisions) (defBody s__law_decisions) (defScope s__law_decisions) .none kV__law_decisions dc__law_decisions pm__law_decisions an__law_decisions cd__law_decisions ct__law_decisions, f__law_context := f__law_context, d__law_context := PySem.W.fnOf "_law_context" "_law_context" (defArgs s__law_context) (defBody s__law_context) (defScope s__law_context) .none kV__law_context dc__law_context pm__law_context an__law_context cd__law_context ct__law_context, f__law_right := f__law_right, d__law_right := PySem.W.fnOf "_law_right" "_law_right" (defArgs s__law_right) (defBody s__law_right) (defScope s__law_right) .none kV__law_right dc__law_right pm__law_right an__law_right cd__law_right ct__law_right, f__law_refused := f__law_refused, d__law_refused := PySem.W.fnOf "_law_refused" "_law_refused" (defArgs s__law_refused) (defBody s__law_refused) (defScope s__law_refused) .none kV__law_refused dc__law_refused pm__law_refused an__law_refused cd__law_refused ct__law_refused, f__law_walked := f__law_walked, d__law_walked := PySem.W.fnOf "_law_walked" "_law_walked" (defArgs s__law_walked) (defBody s__law_walked) (defScope s__law_walked) .none kV__law_walked dc__law_walked pm__law_walked an__law_walked cd__law_walked ct__law_walked, f__law_bits := f__law_bits, d__law_bits := PySem.W.fnOf "_law_bits" "_law_bits" (defArgs s__law_bits) (defBody s__law_bits) (defScope s__law_bits) .none kV__law_bits dc__law_bits pm__law_bits an__law_bits cd__law_bits ct__law_bits, f__law_long := f__law_long, d__law_long := PySem.W.fnOf "_law_long" "_law_long" (defArgs s__law_long) (defBody s__law_long) (defScope s__law_long) .none kV__law_long dc__law_long pm__law_long an__law_long cd__law_long ct__law_long, f_law := fa, d_law := PySem.W.fnOf "law" "law" (defArgs s_law) (defBody s_law) (defScope s_law) .none kV_law dc_law pm_law an_law cd_law ct_law, C_Even := C_Even, C_Quick := C_Quick, C_Run := C_Run, C_Slot := C_Slot, C_Book := C_Book, C_NoBit := C_NoBit, C_NoLooks := C_NoLooks, C_ForetellError := C_ForetellError, C_NoText := C_NoText, t_ONE := t_ONE, t_MOST_COUNTED := t_MOST_COUNTED, t_LEAST := t_LEAST, t_NO_SIGN := t_NO_SIGN } := {
    F_is_whole := F_is_whole
    B_is_whole := F_is_whole.binds (ps := ["thing"]) fun _ _ _ _ _ _ us hl => match us, hl with | [_], _ => rfl
    m_is_whole := PySem.W.mg_of X G a_is_whole
    F_is_bit := F_is_bit
    B_is_bit := F_is_bit.binds (ps := ["thing"]) fun _ _ _ _ _ _ us hl => match us, hl with | [_], _ => rfl
    m_is_bit := PySem.W.mg_of X G a_is_bit
    F_check_bit := F_check_bit
    B_check_bit := F_check_bit.binds (ps := ["thing"]) fun _ _ _ _ _ _ us hl => match us, hl with | [_], _ => rfl
    m_check_bit := PySem.W.mg_of X G a_check_bit
    F_Slot_chance := F_Slot_chance
    B_Slot_chance := F_Slot_chance.binds (ps := ["self"]) fun _ _ _ _ _ _ us hl => match us, hl with | [_], _ => rfl
    M_Slot_chance := ⟨a_Slot_chance, i_Slot_chance, k_Slot_chance⟩
    F_Even___init__ := F_Even___init__
    B_Even___init__ := F_Even___init__.binds (ps := ["self"]) fun _ _ _ _ _ _ us hl => match us, hl with | [_], _ => rfl
    F_Even_chance := F_Even_chance
    B_Even_chance := F_Even_chance.binds (ps := ["self"]) fun _ _ _ _ _ _ us hl => match us, hl with | [_], _ => rfl
    M_Even_chance := ⟨a_Even_chance, i_Even_chance, k_Even_chance⟩
    F_Even_seen := F_Even_seen
    B_Even_seen := F_Even_seen.binds (ps := ["self", "bit"]) fun _ _ _ _ _ _ us hl => match us, hl with | [_, _], _ => rfl
    M_Even_seen := ⟨a_Even_seen, i_Even_seen, k_Even_seen⟩
    F_Quick___init__ := F_Quick___init__
    B_Quick___init__ := F_Quick___init__.binds (ps := ["self"]) fun _ _ _ _ _ _ us hl => match us, hl with | [_], _ => rfl
    F_Quick_chance := F_Quick_chance
    B_Quick_chance := F_Quick_chance.binds (ps := ["self"]) fun _ _ _ _ _ _ us hl => match us, hl with | [_], _ => rfl
    M_Quick_chance := ⟨a_Quick_chance, i_Quick_chance, k_Quick_chance⟩
    F_Quick_seen := F_Quick_seen
    B_Quick_seen := F_Quick_seen.binds (ps := ["self", "bit"]) fun _ _ _ _ _ _ us hl => match us, hl with | [_, _], _ => rfl
    M_Quick_seen := ⟨a_Quick_seen, i_Quick_seen, k_Quick_seen⟩
    F_Run___init__ := F_Run___init__
    B_Run___init__ := F_Run___init__.binds (ps := ["self"]) fun _ _ _ _ _ _ us hl => match us, hl with | [_], _ => rfl
    F_Run_chance := F_Run_chance
    B_Run_chance := F_Run_chance.binds (ps := ["self"]) fun _ _ _ _ _ _ us hl => match us, hl with | [_], _ => rfl
    M_Run_chance := ⟨a_Run_chance, i_Run_chance, k_Run_chance⟩
    F_Run_seen := F_Run_seen
    B_Run_seen := F_Run_seen.binds (ps := ["self", "bit"]) fun _ _ _ _ _ _ us hl => match us, hl with | [_, _], _ => rfl
    M_Run_seen := ⟨a_Run_seen, i_Run_seen, k_Run_seen⟩
    F_slot_of := F_slot_of
    B_slot_of := F_slot_of.binds (ps := ["kind"]) fun _ _ _ _ _ _ us hl => match us, hl with | [_], _ => rfl
    m_slot_of := PySem.W.mg_of X G a_slot_of
    F_sign_back := F_sign_back
    B_sign_back := F_sign_back.binds (ps := ["signs", "place"]) fun _ _ _ _ _ _ us hl => match us, hl with | [_, _], _ => rfl
    m_sign_back := PySem.W.mg_of X G a_sign_back
    F_context_of := F_context_of
    B_context_of := F_context_of.binds (ps := ["look", "signs", "node"]) fun _ _ _ _ _ _ us hl => match us, hl with | [_, _, _], _ => rfl
    m_context_of := PySem.W.mg_of X G a_context_of
    F_Book___init__ := F_Book___init__
    B_Book___init__ := F_Book___init__.binds (ps := ["self", "look"]) fun _ _ _ _ _ _ us hl => match us, hl with | [_, _], _ => rfl
    F_Book_chance := F_Book_chance
    B_Book_chance := F_Book_chance.binds (ps := ["self", "signs", "node"]) fun _ _ _ _ _ _ us hl => match us, hl with | [_, _, _], _ => rfl
    M_Book_chance := ⟨a_Book_chance, i_Book_chance, k_Book_chance⟩
    F_Book_slot_at := F_Book_slot_at
    B_Book_slot_at := F_Book_slot_at.binds (ps := ["self", "signs", "node"]) fun _ _ _ _ _ _ us hl => match us, hl with | [_, _, _], _ => rfl
    M_Book_slot_at := ⟨a_Book_slot_at, i_Book_slot_at, k_Book_slot_at⟩
    F_Book_seen := F_Book_seen
    B_Book_seen := F_Book_seen.binds (ps := ["self", "signs", "node", "bit"]) fun _ _ _ _ _ _ us hl => match us, hl with | [_, _, _, _], _ => rfl
    M_Book_seen := ⟨a_Book_seen, i_Book_seen, k_Book_seen⟩
    F__law_cell_at := F__law_cell_at
    B__law_cell_at := F__law_cell_at.binds (ps := ["_law_script", "_law_k"]) fun _ _ _ _ _ _ us hl => match us, hl with | [_, _], _ => rfl
    m__law_cell_at := PySem.W.mg_of X G a__law_cell_at
    F__law_whole := F__law_whole
    B__law_whole := F__law_whole.binds (ps := ["_law_found"]) fun _ _ _ _ _ _ us hl => match us, hl with | [_], _ => rfl
    m__law_whole := PySem.W.mg_of X G a__law_whole
    F__law_places := F__law_places
    B__law_places := F__law_places.binds (ps := ["_law_cell"]) fun _ _ _ _ _ _ us hl => match us, hl with | [_], _ => rfl
    m__law_places := PySem.W.mg_of X G a__law_places
    F__law_look := F__law_look
    B__law_look := F__law_look.binds (ps := ["_law_cell"]) fun _ _ _ _ _ _ us hl => match us, hl with | [_], _ => rfl
    m__law_look := PySem.W.mg_of X G a__law_look
    F__law_seen := F__law_seen
    B__law_seen := F__law_seen.binds (ps := ["_law_state", "_law_bit"]) fun _ _ _ _ _ _ us hl => match us, hl with | [_, _], _ => rfl
    m__law_seen := PySem.W.mg_of X G a__law_seen
    F__law_due := F__law_due
    B__law_due := F__law_due.binds (ps := ["_law_look_here", "_law_state"]) fun _ _ _ _ _ _ us hl => match us, hl with | [_, _], _ => rfl
    m__law_due := PySem.W.mg_of X G a__law_due
    F__law_decisions := F__law_decisions
    B__law_decisions := F__law_decisions.binds (ps := ["_law_texts"]) fun _ _ _ _ _ _ us hl => match us, hl with | [_], _ => rfl
    m__law_decisions := PySem.W.mg_of X G a__law_decisions
    F__law_context := F__law_context
    B__law_context := F__law_context.binds (ps := ["_law_look_here", "_law_signs", "_law_node"]) fun _ _ _ _ _ _ us hl => match us, hl with | [_, _, _], _ => rfl
    m__law_context := PySem.W.mg_of X G a__law_context
    F__law_right := F__law_right
    B__law_right := F__law_right.binds (ps := ["_law_book", "_law_look_here", "_law_seen_here", "_law_row", "_law_node"]) fun _ _ _ _ _ _ us hl => match us, hl with | [_, _, _, _, _], _ => rfl
    m__law_right := PySem.W.mg_of X G a__law_right
    F__law_refused := F__law_refused
    B__law_refused := F__law_refused.binds (ps := ["_law_book", "_law_signs", "_law_node", "_law_thing"]) fun _ _ _ _ _ _ us hl => match us, hl with | [_, _, _, _], _ => rfl
    m__law_refused := PySem.W.mg_of X G a__law_refused
    F__law_walked := F__law_walked
    B__law_walked := F__law_walked.binds (ps := ["_law_looks", "_law_decisions_here", "_law_at", "_law_odd"]) fun _ _ _ _ _ _ us hl => match us, hl with | [_, _, _, _], _ => rfl
    m__law_walked := PySem.W.mg_of X G a__law_walked
    F__law_bits := F__law_bits
    B__law_bits := F__law_bits.binds (ps := ["_law_script", "_law_most"]) fun _ _ _ _ _ _ us hl => match us, hl with | [_, _], _ => rfl
    m__law_bits := PySem.W.mg_of X G a__law_bits
    F__law_long := F__law_long
    B__law_long := F__law_long.binds (ps := ["_law_look_here", "_law_bits_here"]) fun _ _ _ _ _ _ us hl => match us, hl with | [_, _], _ => rfl
    m__law_long := PySem.W.mg_of X G a__law_long
    F_law := F_law
    B_law := F_law.binds (ps := ["_law_script"]) fun _ _ _ _ _ _ us hl => match us, hl with | [_], _ => rfl
    m_law := PySem.W.mg_of X G a_law
    cl_Even := ⟨pg_Even, hd_Even, po_Even, sa_Even⟩
    m_Even := PySem.W.mg_of X G aC_Even
    k_Even := ⟨mk_Even, a_Even___init__, i_Even___init__, kc_Even⟩
    n_Even_noughts := n_Even_noughts
    n_Even_ones := n_Even_ones
    cl_Quick := ⟨pg_Quick, hd_Quick, po_Quick, sa_Quick⟩
    m_Quick := PySem.W.mg_of X G aC_Quick
    k_Quick := ⟨mk_Quick, a_Quick___init__, i_Quick___init__, kc_Quick⟩
    n_Quick_held := n_Quick_held
    cl_Run := ⟨pg_Run, hd_Run, po_Run, sa_Run⟩
    m_Run := PySem.W.mg_of X G aC_Run
    k_Run := ⟨mk_Run, a_Run___init__, i_Run___init__, kc_Run⟩
    n_Run_last := n_Run_last
    n_Run_length := n_Run_length
    cl_Slot := ⟨pg_Slot, hd_Slot, po_Slot, sa_Slot⟩
    m_Slot := PySem.W.mg_of X G aC_Slot
    k_Slot := ⟨mk_Slot, oi_Slot, kc_Slot⟩
    cl_Book := ⟨pg_Book, hd_Book, po_Book, sa_Book⟩
    m_Book := PySem.W.mg_of X G aC_Book
    k_Book := ⟨mk_Book, a_Book___init__, i_Book___init__, kc_Book⟩
    n_Book_look := n_Book_look
    n_Book_slots := n_Book_slots
    m_NoBit := PySem.W.mg_of X G aC_NoBit
    m_NoLooks := PySem.W.mg_of X G aC_NoLooks
    m_ForetellError := PySem.W.mg_of X G aC_ForetellError
    m_NoText := PySem.W.mg_of X G aC_NoText
    x_NoBit := ⟨xcl_NoBit, xga_NoBit, xgt_NoBit, xca_NoBit, xgg, xtk, xmo_NoBit, xmb_NoBit⟩
    r_NoBit := r_NoBit
    ki_NoBit_NoText := ki_NoBit_NoText
    ki_NoBit_ValueError := ki_NoBit_ValueError
    ki_NoBit_NoBit := ki_NoBit_NoBit
    em_NoBit_ForetellError := exm_mk eb_ForetellError ed_ForetellError et_ForetellError em_NoBit_ForetellError
    z_isinstance := PySem.W.mg_none_of X G z_isinstance
    z_int := PySem.W.mg_none_of X G z_int
    z_bool := PySem.W.mg_none_of X G z_bool
    z_min := PySem.W.mg_none_of X G z_min
    z_max := PySem.W.mg_none_of X G z_max
    z_len := PySem.W.mg_none_of X G z_len
    z_tuple := PySem.W.mg_none_of X G z_tuple
    z_range := PySem.W.mg_none_of X G z_range
    z_list := PySem.W.mg_none_of X G z_list
    z_ValueError := PySem.W.mg_none_of X G z_ValueError
    z_enumerate := PySem.W.mg_none_of X G z_enumerate
    c_ONE := PySem.W.mg_of X G v_ONE
    c_MOST_COUNTED := PySem.W.mg_of X G v_MOST_COUNTED
    c_LEAST := PySem.W.mg_of X G v_LEAST
    c_NO_SIGN := PySem.W.mg_of X G v_NO_SIGN
    }
  exact ⟨_, fun s v => .of_eq rfl, fun base _ _ => ok_law T⟩
theorem walk {l : PySem.W.OpenLaw} {q : Program} {loose : List Str} {XP : (Str → Option Value) → Heap → Prop} {YP : World → Heap → Prop} {d : DefRec} {K : Params → PySem.W.Frag} (hn : l.most = some 63) (hdf : d.params.defaults = [])
    (hY : ∀ (w : World) (h : Heap), YP w h → (K w.params).In h)
    (F : ∀ (w : World) (mg : Str → Option Value) (fa : Addr) (h : Heap), (K w.params).In h → h.Ns mainGlobals mg → mg d.name = some (.ref fa) →
      ∃ fd : FuncData, (∀ (s : Shared) (u : Value), BindsTo s fd ⟨[u], []⟩ [("_law_script", u)]) ∧ ∀ base : Heap, (K w.params).In base → base.Ns mainGlobals mg → FnOk l.prog w (K w.params) mg base CX0 8 fa fd ["_law_script"] (sp_law (K w.params))) :
    PySem.W.WalkO q loose XP YP l.row.toRowW d [] (fun f vs => PySem.call f vs) :=
  L2.walk_of (n := 63) (k := 8) (x := "_law_script") (CX := fun _ => CX0) (sp := fun w => sp_law (K w.params)) hn (by decide) hdf ⟨rfl, by decide, by decide⟩ hY F (fun _ _ a ns hl _ hS => ⟨a, ns, rfl, hS, hl, fun _ => rfl⟩) fun _ _ _ _ _ z => z
end Law
open PySem PySem.W PyProof.Rows
def PySem.W.Fast.tw2921250423466424580 : Unit := ()
def PySem.W.Fast.tw13652461348087316186 : Unit := ()
def PySem.W.Fast.tw8742368344316473793 : Unit := ()
def PySem.W.Fast.tw17367953742093474233 : Unit := ()
def PySem.W.Fast.tw13400228480997773805 : Unit := ()
def PySem.W.Fast.tw918078775716434205 : Unit := ()
set_option maxRecDepth 100000 in
set_option maxHeartbeats 0 in
theorem PySem.Challenge.cw_foretell_k17_a_book_holds : PySem.Challenge.rw_foretell_k17_a_book.Holds := by
  w_on; o_law; k_head; (case hw => w_witness2)
  k_fill
  refine Law.walk (l := PySem.Challenge.rw_foretell_k17_a_book) rfl rfl (fun w h Y => PySem.W.kIn_of Y) ?F
  case F =>
    intro w mg fa h KX G hmg
    refine' Law.all_mk KX G hmg ?aC_Even ?aC_Quick ?aC_Run ?aC_Slot ?aC_Book ?aC_NoBit ?aC_NoLooks ?aC_ForetellError ?aC_NoText ?a_is_whole ?l_is_whole ?c_is_whole ?k_is_whole ?a_is_bit ?l_is_bit ?c_is_bit ?k_is_bit ?a_check_bit ?l_check_bit ?c_check_bit ?k_check_bit ?a_Slot_chance ?i_Slot_chance ?l_Slot_chance ?c_Slot_chance ?k_Slot_chance ?a_Even___init__ ?i_Even___init__ ?l_Even___init__ ?c_Even___init__ ?k_Even___init__ ?a_Even_chance ?i_Even_chance ?l_Even_chance ?c_Even_chance ?k_Even_chance ?a_Even_seen ?i_Even_seen ?l_Even_seen ?c_Even_seen ?k_Even_seen ?a_Quick___init__ ?i_Quick___init__ ?l_Quick___init__ ?c_Quick___init__ ?k_Quick___init__ ?a_Quick_chance ?i_Quick_chance ?l_Quick_chance ?c_Quick_chance ?k_Quick_chance ?a_Quick_seen ?i_Quick_seen ?l_Quick_seen ?c_Quick_seen ?k_Quick_seen ?a_Run___init__ ?i_Run___init__ ?l_Run___init__ ?c_Run___init__ ?k_Run___init__ ?a_Run_chance ?i_Run_chance ?l_Run_chance ?c_Run_chance ?k_Run_chance ?a_Run_seen ?i_Run_seen ?l_Run_seen ?c_Run_seen ?k_Run_seen ?a_slot_of ?l_slot_of ?c_slot_of ?k_slot_of ?a_sign_back ?l_sign_back ?c_sign_back ?k_sign_back ?a_context_of ?l_context_of ?c_context_of ?k_context_of ?a_Book___init__ ?i_Book___init__ ?l_Book___init__ ?c_Book___init__ ?k_Book___init__ ?a_Book_chance ?i_Book_chance ?l_Book_chance ?c_Book_chance ?k_Book_chance ?a_Book_slot_at ?i_Book_slot_at ?l_Book_slot_at ?c_Book_slot_at ?k_Book_slot_at ?a_Book_seen ?i_Book_seen ?l_Book_seen ?c_Book_seen ?k_Book_seen ?a__law_cell_at ?l__law_cell_at ?c__law_cell_at ?k__law_cell_at ?a__law_whole ?l__law_whole ?c__law_whole ?k__law_whole ?a__law_places ?l__law_places ?c__law_places ?k__law_places ?a__law_look ?l__law_look ?c__law_look ?k__law_look ?a__law_seen ?l__law_seen ?c__law_seen ?k__law_seen ?a__law_due ?l__law_due ?c__law_due ?k__law_due ?a__law_decisions ?l__law_decisions ?c__law_decisions ?k__law_decisions ?a__law_context ?l__law_context ?c__law_context ?k__law_context ?a__law_right ?l__law_right ?c__law_right ?k__law_right ?a__law_refused ?l__law_refused ?c__law_refused ?k__law_refused ?a__law_walked ?l__law_walked ?c__law_walked ?k__law_walked ?a__law_bits ?l__law_bits ?c__law_bits ?k__law_bits ?a__law_long ?l__law_long ?c__law_long ?k__law_long ?a_law ?l_law ?c_law ?k_law ?pg_Even ?hd_Even ?po_Even ?sa_Even ?mk_Even ?kc_Even ?n_Even_noughts ?n_Even_ones ?pg_Quick ?hd_Quick ?po_Quick ?sa_Quick ?mk_Quick ?kc_Quick ?n_Quick_held ?pg_Run ?hd_Run ?po_Run ?sa_Run ?mk_Run ?kc_Run ?n_Run_last ?n_Run_length ?pg_Slot ?hd_Slot ?po_Slot ?sa_Slot ?mk_Slot ?oi_Slot ?kc_Slot ?pg_Book ?hd_Book ?po_Book ?sa_Book ?mk_Book ?kc_Book ?n_Book_look ?n_Book_slots ?xcl_NoBit ?xga_NoBit ?xgt_NoBit ?xca_NoBit ?xmo_NoBit ?xmb_NoBit ?r_NoBit ?xgg ?xtk ?eb_ForetellError ?ed_ForetellError ?et_ForetellError ?em_NoBit_ForetellError ?ki_NoBit_NoText ?ki_NoBit_ValueError ?ki_NoBit_NoBit ?z_isinstance ?z_int ?z_bool ?z_min ?z_max ?z_len ?z_tuple ?z_range ?z_list ?z_ValueError ?z_enumerate ?v_ONE ?v_MOST_COUNTED ?v_LEAST ?v_NO_SIGN
    (case aC_Even => k_is)
    (case aC_Quick => k_is)
    (case aC_Run => k_is)
    (case aC_Slot => k_is)
    (case aC_Book => k_is)
    (case aC_NoBit => k_is)
    (case aC_NoLooks => k_is)
    (case aC_ForetellError => k_is)
    (case aC_NoText => k_is)
    (case a_is_whole => k_is)
    (case l_is_whole => k_is)
    (case c_is_whole => k_is)
    (case k_is_whole => k_is)
    (case a_is_bit => k_is)
    (case l_is_bit => k_is)
    (case c_is_bit => k_is)
    (case k_is_bit => k_is)
    (case a_check_bit => k_is)
    (case l_check_bit => k_is)
    (case c_check_bit => k_is)
    (case k_check_bit => k_is)
    (case a_Slot_chance => k_is)
    (case i_Slot_chance => k_is)
    (case l_Slot_chance => k_is)
    (case c_Slot_chance => k_is)
    (case k_Slot_chance => k_is)
    (case a_Even___init__ => k_is)
    (case i_Even___init__ => k_is)
    (case l_Even___init__ => k_is)
    (case c_Even___init__ => k_is)
    (case k_Even___init__ => k_is)
    (case a_Even_chance => k_is)
    (case i_Even_chance => k_is)
    (case l_Even_chance => k_is)
    (case c_Even_chance => k_is)
    (case k_Even_chance => k_is)
    (case a_Even_seen => k_is)
    (case i_Even_seen => k_is)
    (case l_Even_seen => k_is)
    (case c_Even_seen => k_is)
    (case k_Even_seen => k_is)
    (case a_Quick___init__ => k_is)
    (case i_Quick___init__ => k_is)
    (case l_Quick___init__ => k_is)
    (case c_Quick___init__ => k_is)
    (case k_Quick___init__ => k_is)
    (case a_Quick_chance => k_is)
    (case i_Quick_chance => k_is)
    (case l_Quick_chance => k_is)
    (case c_Quick_chance => k_is)
    (case k_Quick_chance => k_is)
    (case a_Quick_seen => k_is)
    (case i_Quick_seen => k_is)
    (case l_Quick_seen => k_is)
    (case c_Quick_seen => k_is)
    (case k_Quick_seen => k_is)
    (case a_Run___init__ => k_is)
    (case i_Run___init__ => k_is)
    (case l_Run___init__ => k_is)
    (case c_Run___init__ => k_is)
    (case k_Run___init__ => k_is)
    (case a_Run_chance => k_is)
    (case i_Run_chance => k_is)
    (case l_Run_chance => k_is)
    (case c_Run_chance => k_is)
    (case k_Run_chance => k_is)
    (case a_Run_seen => k_is)
    (case i_Run_seen => k_is)
    (case l_Run_seen => k_is)
    (case c_Run_seen => k_is)
    (case k_Run_seen => k_is)
    (case a_slot_of => k_is)
    (case l_slot_of => k_is)
    (case c_slot_of => k_is)
    (case k_slot_of => k_is)
    (case a_sign_back => k_is)
    (case l_sign_back => k_is)
    (case c_sign_back => k_is)
    (case k_sign_back => k_is)
    (case a_context_of => k_is)
    (case l_context_of => k_is)
    (case c_context_of => k_is)
    (case k_context_of => k_is)
    (case a_Book___init__ => k_is)
    (case i_Book___init__ => k_is)
    (case l_Book___init__ => k_is)
    (case c_Book___init__ => k_is)
    (case k_Book___init__ => k_is)
    (case a_Book_chance => k_is)
    (case i_Book_chance => k_is)
    (case l_Book_chance => k_is)
    (case c_Book_chance => k_is)
    (case k_Book_chance => k_is)
    (case a_Book_slot_at => k_is)
    (case i_Book_slot_at => k_is)
    (case l_Book_slot_at => k_is)
    (case c_Book_slot_at => k_is)
    (case k_Book_slot_at => k_is)
    (case a_Book_seen => k_is)
    (case i_Book_seen => k_is)
    (case l_Book_seen => k_is)
    (case c_Book_seen => k_is)
    (case k_Book_seen => k_is)
    (case a__law_cell_at => k_is)
    (case l__law_cell_at => k_is)
    (case c__law_cell_at => k_is)
    (case k__law_cell_at => k_is)
    (case a__law_whole => k_is)
    (case l__law_whole => k_is)
    (case c__law_whole => k_is)
    (case k__law_whole => k_is)
    (case a__law_places => k_is)
    (case l__law_places => k_is)
    (case c__law_places => k_is)
    (case k__law_places => k_is)
    (case a__law_look => k_is)
    (case l__law_look => k_is)
    (case c__law_look => k_is)
    (case k__law_look => k_is)
    (case a__law_seen => k_is)
    (case l__law_seen => k_is)
    (case c__law_seen => k_is)
    (case k__law_seen => k_is)
    (case a__law_due => k_is)
    (case l__law_due => k_is)
    (case c__law_due => k_is)
    (case k__law_due => k_is)
    (case a__law_decisions => k_is)
    (case l__law_decisions => k_is)
    (case c__law_decisions => k_is)
    (case k__law_decisions => k_is)
    (case a__law_context => k_is)
    (case l__law_context => k_is)
    (case c__law_context => k_is)
    (case k__law_context => k_is)
    (case a__law_right => k_is)
    (case l__law_right => k_is)
    (case c__law_right => k_is)
    (case k__law_right => k_is)
    (case a__law_refused => k_is)
    (case l__law_refused => k_is)
    (case c__law_refused => k_is)
    (case k__law_refused => k_is)
    (case a__law_walked => k_is)
    (case l__law_walked => k_is)
    (case c__law_walked => k_is)
    (case k__law_walked => k_is)
    (case a__law_bits => k_is)
    (case l__law_bits => k_is)
    (case c__law_bits => k_is)
    (case k__law_bits => k_is)
    (case a__law_long => k_is)
    (case l__law_long => k_is)
    (case c__law_long => k_is)
    (case k__law_long => k_is)
    (case a_law => k_is)
    (case l_law => k_is)
    (case c_law => k_is)
    (case k_law => k_is)
    (case pg_Even => k_is)
    (case hd_Even => k_is)
    (case po_Even => k_is)
    (case sa_Even => k_is)
    (case mk_Even => k_is)
    (case kc_Even => k_is)
    (case n_Even_noughts => k_is)
    (case n_Even_ones => k_is)
    (case pg_Quick => k_is)
    (case hd_Quick => k_is)
    (case po_Quick => k_is)
    (case sa_Quick => k_is)
    (case mk_Quick => k_is)
    (case kc_Quick => k_is)
    (case n_Quick_held => k_is)
    (case pg_Run => k_is)
    (case hd_Run => k_is)
    (case po_Run => k_is)
    (case sa_Run => k_is)
    (case mk_Run => k_is)
    (case kc_Run => k_is)
    (case n_Run_last => k_is)
    (case n_Run_length => k_is)
    (case pg_Slot => k_is)
    (case hd_Slot => k_is)
    (case po_Slot => k_is)
    (case sa_Slot => k_is)
    (case mk_Slot => k_is)
    (case oi_Slot => k_is)
    (case kc_Slot => k_is)
    (case pg_Book => k_is)
    (case hd_Book => k_is)
    (case po_Book => k_is)
    (case sa_Book => k_is)
    (case mk_Book => k_is)
    (case kc_Book => k_is)
    (case n_Book_look => k_is)
    (case n_Book_slots => k_is)
    (case xcl_NoBit => k_is)
    (case xga_NoBit => k_is)
    (case xgt_NoBit => k_is)
    (case xca_NoBit => k_is)
    (case xmo_NoBit => k_is)
    (case xmb_NoBit => k_is)
    (case r_NoBit => k_exc)
    (case xgg => k_is)
    (case xtk => k_is)
    (case eb_ForetellError => k_is)
    (case ed_ForetellError => k_is)
    (case et_ForetellError => k_is)
    (case em_NoBit_ForetellError => k_is)
    (case ki_NoBit_NoText => kit_is)
    (case ki_NoBit_ValueError => kit_is)
    (case ki_NoBit_NoBit => kit_is)
    (case z_isinstance => k_is)
    (case z_int => k_is)
    (case z_bool => k_is)
    (case z_min => k_is)
    (case z_max => k_is)
    (case z_len => k_is)
    (case z_tuple => k_is)
    (case z_range => k_is)
    (case z_list => k_is)
    (case z_ValueError => k_is)
    (case z_enumerate => k_is)
    (case v_ONE => k_is)
    (case v_MOST_COUNTED => k_is)
    (case v_LEAST => k_is)
    (case v_NO_SIGN => k_is)
#print axioms PySem.Challenge.cw_foretell_k17_a_book_holds

