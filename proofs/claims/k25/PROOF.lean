import PyProof.Rows.All
import Wide.All
import OpenK.AllK
import Wide.FinOn
import PyProof.EqAt
import PyProof.EqKinds
import PyProof.TupleCall
import Lean
import PySem.Challenge.RW_foretell_k25_texts_behind_one_another
set_option Elab.async false
set_option linter.all false
set_option maxRecDepth 100000
set_option maxHeartbeats 4000000
namespace L2
open PySem PySem.Spec PyProof.Rows

/-- a key: an int or a str -/
abbrev Key := Sum Int Str
def keyIs : Key → Value → Bool
  | .inl k, v => Value.isInt k v
  | .inr x, v => Value.isStrOf x v
def keyH (w : World) : Key → Int
  | .inl k => hashInt k
  | .inr x => hashStr w x
theorem keyIs_shape : ∀ {k : Key} {v : Value}, keyIs k v = true → (∃ i t, k = Sum.inl i ∧ v = Value.int i t) ∨ (∃ x t, k = Sum.inr x ∧ v = Value.str x t)
  | .inl i, v, h => by
    obtain ⟨t, e⟩ := Value.isInt_shape (k := i) (v := v) h
    exact .inl ⟨i, t, rfl, e⟩
  | .inr x, v, h => by
    obtain ⟨t, e⟩ := Value.isStrOf_shape (x := x) (v := v) h
    exact .inr ⟨x, t, rfl, e⟩
theorem keyIs_int (i : Int) (t : Tok) : keyIs (.inl i) (.int i t) = true := by simp [keyIs, Value.isInt]
theorem keyIs_str (x : Str) (t : Tok) : keyIs (.inr x) (.str x t) = true := by simp [keyIs, Value.isStrOf]
theorem key_ll (a b : Int) : decide ((Sum.inl a : Key) = Sum.inl b) = (a == b) := by
  by_cases e : a = b
  · subst e; simp
  · have h : ¬ (Sum.inl a : Key) = Sum.inl b := fun q => e (Sum.inl.inj q)
    rw [decide_eq_false h]
    exact (beq_eq_false_iff_ne.mpr e).symm
theorem key_rr (a b : Str) : decide ((Sum.inr a : Key) = Sum.inr b) = decide (a = b) := by
  by_cases e : a = b
  · subst e; simp
  · have h : ¬ (Sum.inr a : Key) = Sum.inr b := fun q => e (Sum.inr.inj q)
    rw [decide_eq_false h, decide_eq_false e]
theorem key_lr (a : Int) (b : Str) : decide ((Sum.inl a : Key) = Sum.inr b) = false := decide_eq_false (fun q => nomatch q)
theorem key_rl (a : Str) (b : Int) : decide ((Sum.inr a : Key) = Sum.inl b) = false := decide_eq_false (fun q => nomatch q)

def mixKind (prog : Program) (w : World) : PySem.KeyKind prog w Key where
  is := keyIs
  hash := keyH w
  inj := fun v a b ha hb => by
    rcases keyIs_shape ha with ⟨i, t, rfl, rfl⟩ | ⟨x, t, rfl, rfl⟩
    · rcases keyIs_shape hb with ⟨j, u, rfl, e⟩ | ⟨y, u, rfl, e⟩
      · injection e with e1 _; rw [e1]
      · exact nomatch e
    · rcases keyIs_shape hb with ⟨j, u, rfl, e⟩ | ⟨y, u, rfl, e⟩
      · exact nomatch e
      · injection e with e1 _; rw [e1]
  byValue := fun k v h => by
    rcases keyIs_shape h with ⟨i, t, rfl, rfl⟩ | ⟨x, t, rfl, rfl⟩ <;> rfl
  pyHash := fun hv h => by
    rcases keyIs_shape hv with ⟨i, t, rfl, rfl⟩ | ⟨x, t, rfl, rfl⟩
    · exact wpAny_pyHash_int h
    · exact wpAny_pyHash_str h
  eqBool := fun hu hv h => by
    rcases keyIs_shape hu with ⟨i, t, rfl, rfl⟩ | ⟨x, t, rfl, rfl⟩
    · rcases keyIs_shape hv with ⟨j, u, rfl, rfl⟩ | ⟨y, u, rfl, rfl⟩
      · rw [key_ll] at h; exact wpAny_eqBool_int h
      · rw [key_lr] at h; exact SeqAt.EqAt.int_str i t y u _ _ _ _ h
    · rcases keyIs_shape hv with ⟨j, u, rfl, rfl⟩ | ⟨y, u, rfl, rfl⟩
      · rw [key_rl] at h; exact SeqAt.EqAt.str_int x t j u _ _ _ _ h
      · rw [key_rr] at h; exact wpAny_eqBool_str h
  «strs» := fun k x t v h => by
    rcases keyIs_shape h with ⟨i, u, rfl, e⟩ | ⟨y, u, rfl, e⟩
    · exact nomatch e
    · injection e with e1 _
      subst e1
      cases v <;> rfl

theorem mixKind_int (prog : Program) (w : World) (i : Int) (t : Tok) : (mixKind prog w).is (.inl i) (.int i t) = true := keyIs_int i t
theorem mixKind_str (prog : Program) (w : World) (x : Str) (t : Tok) : (mixKind prog w).is (.inr x) (.str x t) = true := keyIs_str x t
end L2

namespace L2
open PySem PySem.Spec PyProof.Rows

/-- a value, without the heap -/
inductive V where
  | non | bl (b : Bool) | int (i : Int) | str (x : Str) | byt (b : Array UInt8) | flt (b : UInt64) | ref (a : Addr) | ty (n : String)
  deriving DecidableEq

def RelV : V → Value → Prop
  | .non, u => u = Value.none
  | .bl b, u => u = Value.bool b
  | .int i, u => ∃ t, u = Value.int i t
  | .str x, u => ∃ t, u = Value.str x t
  | .byt b, u => ∃ t, u = Value.bytes b t
  | .flt b, u => ∃ t, u = Value.float b t
  | .ref a, u => u = Value.ref a
  | .ty n, u => u = Value.type n

abbrev Vals : List V → List Value → Prop := Paired RelV
theorem Vals.length {xs : List V} {us : List Value} (r : Vals xs us) : xs.length = us.length := Paired.length r
theorem Vals.get : ∀ {xs : List V} {us : List Value} {i : Nat} {x : V}, Vals xs us → xs[i]? = some x → ∃ u, us[i]? = some u ∧ RelV x u
  | _, _, _, _, .nil, e => by simp at e
  | _, _, 0, _, .cons r _, e => by simp at e; subst e; exact ⟨_, rfl, r⟩
  | _, _, i + 1, x, .cons _ t, e => by
    obtain ⟨u, h1, h2⟩ := Vals.get (i := i) (x := x) t (by simpa using e)
    exact ⟨u, by simpa using h1, h2⟩
theorem Vals.set {x : V} {u : Value} (r : RelV x u) : ∀ {xs : List V} {us : List Value} (i : Nat), Vals xs us → Vals (xs.set i x) (us.set i u)
  | _, _, _, .nil => .nil
  | _, _, 0, .cons _ t => .cons r t
  | _, _, i + 1, .cons q t => .cons q (Vals.set r i t)
theorem Vals.append : ∀ {xs ys : List V} {us ws : List Value}, Vals xs us → Vals ys ws → Vals (xs ++ ys) (us ++ ws)
  | _, _, _, _, .nil, s => s
  | _, _, _, _, .cons r t, s => .cons r (Vals.append t s)
theorem Vals.take : ∀ {xs : List V} {us : List Value} (n : Nat), Vals xs us → Vals (xs.take n) (us.take n)
  | _, _, 0, _ => .nil
  | _, _, _ + 1, .nil => .nil
  | _, _, n + 1, .cons r t => .cons r (Vals.take n t)
theorem Vals.drop : ∀ {xs : List V} {us : List Value} (n : Nat), Vals xs us → Vals (xs.drop n) (us.drop n)
  | _, _, 0, r => r
  | _, _, _ + 1, .nil => .nil
  | _, _, n + 1, .cons _ t => Vals.drop n t
theorem Vals.none_of : ∀ {xs : List V} {us : List Value} {i : Nat}, Vals xs us → xs[i]? = none → us[i]? = none := fun {xs us i} r e => by
  have h1 := r.length
  have h2 : xs.length ≤ i := List.getElem?_eq_none_iff.mp e
  exact List.getElem?_eq_none_iff.mpr (by omega)

def RelO : Option V → Option Value → Prop
  | some v, some u => RelV v u
  | none, none => True
  | _, _ => False
def KV {κ : Type} : List (κ × V) → List (κ × Value) → Prop := Paired fun (p : κ × V) (q : κ × Value) => p.1 = q.1 ∧ RelV p.2 q.2

/-- a key of a dict (00_mix): an int or a text -/
def kV : Key → V
  | .inl i => .int i
  | .inr x => .str x

/-- what stands at a tracked address -/
inductive HO where
  /-- a list -/
  | lst (xs : List V)
  /-- a tuple (never changes) -/
  | tup (xs : List V)
  /-- a dict whose keys are ints and texts; one whose keys are tuples of ints and texts (the empty one is both) -/
  | dK (kvs : List (Key × V)) | dT (kvs : List (List Key × V))
  /-- a set of ints: its members, its size -/
  | set (S : Int → Bool) (n : Nat)
  /-- an instance of the class at C, its dict at dx, its attributes -/
  | ins (C dx : Addr) (fs : List (Str × V))
  /-- the dict of the instance at x -/
  | own (x : Addr)
  /-- the dict of an exception -/
  | xd (fs : List (Str × V))
  /-- a bound method, f of x -/
  | met (f x : Addr)
  /-- a range object lo, lo + 1, .. below hi -/
  | rng (lo hi : Int)
  /-- a thing that is known to the object (the script; a dict while a loop walks it): read, never written while it is so -/
  | frz (o : Obj) (u : HO)
  /-- a code object's table -/
  | tbl (ps : Array Value)
  /-- any other thing, by what is true of its one object (a def of one's own: SetO a S n := HO.ext fun h => ..) -/
  | ext (φ : Heap → Prop)

abbrev Hp := Addr → Option HO
def upd (H : Hp) (a : Addr) (o : HO) : Hp := fun b => if b = a then some o else H b
theorem upd_same {H : Hp} {a : Addr} {o : HO} : upd H a o a = some o := by unfold upd; rw [if_pos rfl]
theorem upd_ne {H : Hp} {a b : Addr} {o : HO} (h : b ≠ a) : upd H a o b = H b := by unfold upd; rw [if_neg h]
/-- two objects of different content stand apart -/
theorem ne_of {H : Hp} {a b : Addr} {o u : HO} (h : H a = some o) (h' : H b = some u) (d : o ≠ u) : a ≠ b := by
  intro e; subst e; rw [h] at h'; exact d (Option.some.inj h')
theorem ne_of_none {H : Hp} {a b : Addr} {o : HO} (h : H a = some o) (h' : H b = none) : a ≠ b := by
  intro e; subst e; rw [h] at h'; cases h'

section
variable (P : Program) (w : World)
def ObjOk (H : Hp) (h : Heap) (a : Addr) : HO → Prop
  | .lst xs => xs.length ≤ sizeLine ∧ ∃ (its : List Value) (n : Nat), Vals xs its ∧ h.get? a = some { cls := .type "list", data := .seq its.toArray n }
  | .tup xs => xs.length ≤ sizeLine ∧ ∃ its : List Value, Vals xs its ∧ IsTup h a its.toArray
  | .dK kvs => kvs.length ≤ sizeLine ∧ (a == sysModules) = false ∧ ∃ vs, KV kvs vs ∧ h.DictOf (mixKind P w) a vs
  | .dT kvs => kvs.length ≤ sizeLine ∧ (a == sysModules) = false ∧ ∃ xs : List (List Key × Addr × Value),
      Paired (fun (p : List Key × V) (q : List Key × Addr × Value) => p.1 = q.1 ∧ H q.2.1 = some (.tup (p.1.map kV)) ∧ RelV p.2 q.2.2) kvs xs ∧
      ∃ o es ep, h.get? a = some o ∧ o.ExactDict ∧ o.data = .dict es ep ∧ es.toList = xs.map (entryOfKey (tupleKind (mixKind P w))) ∧ (xs.map (·.1)).Nodup
  | .set S n => h.SetOf (intKind P w) a S n
  | .ins C dx fs => H dx = some (.own a) ∧ fs.length ≤ 1000 ∧ dx ≠ a ∧ h.get? a = some (PySem.W.instObj C dx) ∧
      ∃ mA, h.Ns1 dx mA ∧ (∀ f, RelO (fs.lookup f) (mA f)) ∧ PySem.Within mA (fs.map (·.1))
  | .own _ => ∃ o, h.get? a = some o
  | .xd fs => ∃ mA, h.Ns1 a mA ∧ ∀ f, RelO (fs.lookup f) (mA f)
  | .rng lo hi => ∃ t u v, h.get? a = some { cls := .type "range", data := .fields #[.int lo t, .int hi u, .int 1 v] }
  | .frz o u => h.get? a = some o ∧ ObjOk H h a u
  | .tbl ps => h.get? a = some { cls := .none, data := .fields ps }
  | .met f x => h.get? a = some (PySem.W.methodObj (.ref f) (.ref x))
  | .ext φ => φ h ∧ (∃ o, h.get? a = some o) ∧ ∀ h1 h2 : Heap, φ h1 → (∀ o, h1.get? a = some o → h2.get? a = some o) → φ h2
/-- the abstract heap is held -/
def HOk (H : Hp) (h : Heap) : Prop := ∀ a o, H a = some o → ObjOk P w H h a o
end

section
variable {P : Program} {w : World} {H H' : Hp} {h h' : Heap} {a : Addr} {o : HO}
theorem ObjOk.lt (x : ObjOk P w H h a o) : a < h.objs.size := by
  cases o with
  | lst xs => obtain ⟨_, _, _, _, e⟩ := x; exact Heap.lt_size e
  | tup xs => obtain ⟨_, _, _, p⟩ := x; exact p.lt
  | dK kvs => obtain ⟨_, _, _, _, o, _, _, e, _⟩ := x; exact Heap.lt_size e
  | dT kvs => obtain ⟨_, _, _, _, o, _, _, e, _⟩ := x; exact Heap.lt_size e
  | set S n => obtain ⟨o, _, _, _, e, _⟩ := x; exact Heap.lt_size e
  | ins C dx fs => obtain ⟨_, _, _, e, _⟩ := x; exact Heap.lt_size e
  | own y => obtain ⟨_, e⟩ := x; exact Heap.lt_size e
  | xd fs => obtain ⟨_, ⟨_, _, _, e, _⟩, _⟩ := x; exact Heap.lt_size e
  | rng lo hi => obtain ⟨_, _, _, e⟩ := x; exact Heap.lt_size e
  | frz ob u => obtain ⟨e, _⟩ := x; exact Heap.lt_size e
  | tbl ps => exact Heap.lt_size (show h.get? a = some _ from x)
  | met f y => exact Heap.lt_size (show h.get? a = some _ from x)
  | ext φ => obtain ⟨_, ⟨_, e⟩, _⟩ := x; exact Heap.lt_size e
theorem Paired.mapP {α β : Type} {F G : α → β → Prop} : ∀ {l₁ : List α} {l₂ : List β}, Paired F l₁ l₂ → (∀ a b, F a b → G a b) → Paired G l₁ l₂
  | _, _, .nil, _ => .nil
  | _, _, .cons r t, f => .cons (f _ _ r) (Paired.mapP t f)
/-- what an object's description leans on: its own object, its own dict, the tuples -/
theorem ObjOk.stay (x : ObjOk P w H h a o) (k : ∀ b u, (b = a ∨ H b = some (.own a)) → h.get? b = some u → h'.get? b = some u)
    (ho : ∀ b, H b = some (.own a) → H' b = some (.own a)) (ht : ∀ b xs, H b = some (.tup xs) → H' b = some (.tup xs)) : ObjOk P w H' h' a o := by
  induction o with
  | lst xs => obtain ⟨z, its, n, r, e⟩ := x; exact ⟨z, its, n, r, k _ _ (.inl rfl) e⟩
  | tup xs => obtain ⟨z, its, r, ob, e, c⟩ := x; exact ⟨z, its, r, ob, k _ _ (.inl rfl) e, c⟩
  | dK kvs => obtain ⟨z, y, vs, r, ob, es, ep, e, c⟩ := x; exact ⟨z, y, vs, r, ob, es, ep, k _ _ (.inl rfl) e, c⟩
  | dT kvs =>
    obtain ⟨z, y, xs, r, ob, es, ep, e, c⟩ := x
    exact ⟨z, y, xs, Paired.mapP r fun p q z => ⟨z.1, ht _ _ z.2.1, z.2.2⟩, ob, es, ep, k _ _ (.inl rfl) e, c⟩
  | set S n => obtain ⟨ob, es, ep, t, e, c⟩ := x; exact ⟨ob, es, ep, t, k _ _ (.inl rfl) e, c⟩
  | ins C dx fs =>
    obtain ⟨d, z, ne, e, mA, ⟨od, es, ep, e2, c⟩, r⟩ := x
    exact ⟨ho _ d, z, ne, k _ _ (.inl rfl) e, mA, ⟨od, es, ep, k _ _ (.inr d) e2, c⟩, r⟩
  | own y => obtain ⟨ob, e⟩ := x; exact ⟨ob, k _ _ (.inl rfl) e⟩
  | xd fs => obtain ⟨mA, ⟨od, es, ep, e, c⟩, r⟩ := x; exact ⟨mA, ⟨od, es, ep, k _ _ (.inl rfl) e, c⟩, r⟩
  | rng lo hi => obtain ⟨t, u, v, e⟩ := x; exact ⟨t, u, v, k _ _ (.inl rfl) e⟩
  | frz ob u ih => obtain ⟨e, q⟩ := x; exact ⟨k _ _ (.inl rfl) e, ih q⟩
  | tbl ps =>
    have e : h.get? a = some { cls := .none, data := .fields ps } := x
    show h'.get? a = some { cls := .none, data := .fields ps }
    exact k a _ (.inl rfl) e
  | met f y =>
    have e : h.get? a = some (PySem.W.methodObj (.ref f) (.ref y)) := x
    show h'.get? a = some (PySem.W.methodObj (.ref f) (.ref y))
    exact k a _ (.inl rfl) e
  | ext φ => obtain ⟨p, ⟨o, e⟩, st⟩ := x; exact ⟨st _ _ p fun o q => k _ _ (.inl rfl) q, ⟨o, k _ _ (.inl rfl) e⟩, st⟩
theorem HOk.lt (x : HOk P w H h) (e : H a = some o) : a < h.objs.size := (x a o e).lt
theorem HOk.fresh (x : HOk P w H h) (e : h.objs.size ≤ a) : H a = none := by
  cases q : H a with
  | none => rfl
  | some u => exact absurd (Nat.lt_of_lt_of_le (x.lt q) e) (Nat.lt_irrefl _)
/-- every object of the heap is kept -/
theorem HOk.kept (x : HOk P w H h) (k : ∀ b u, h.get? b = some u → h'.get? b = some u) : HOk P w H h' := fun a o e =>
  (x a o e).stay (fun b u _ q => k b u q) (fun _ q => q) fun _ _ q => q
/-- a new object is laid and tracked -/
theorem HOk.laid (x : HOk P w H h) (k : ∀ b u, h.get? b = some u → h'.get? b = some u) (hp : h.objs.size ≤ a) (new : ObjOk P w (upd H a o) h' a o) : HOk P w (upd H a o) h' := fun b u e => by
  have hn := x.fresh hp
  by_cases hb : b = a
  · subst hb; rw [upd_same] at e; cases e; exact new
  · rw [upd_ne hb] at e
    exact (x b u e).stay (fun c v _ q => k c v q) (fun c q => by rw [upd_ne (ne_of_none q hn)]; exact q) fun c xs q => by rw [upd_ne (ne_of_none q hn)]; exact q
end

/-- what may be read as u: it is u, or a known u -/
def Rd (H : Hp) (a : Addr) (u : HO) : Prop := H a = some u ∨ ∃ o, H a = some (.frz o u)
theorem Rd.of {H : Hp} {a : Addr} {u : HO} (h : H a = some u) : Rd H a u := .inl h
theorem Rd.ok {P : Program} {w : World} {H : Hp} {h : Heap} {a : Addr} {u : HO} (r : Rd H a u) (x : HOk P w H h) : ObjOk P w H h a u := by
  rcases r with r | ⟨o, r⟩
  · exact x a u r
  · obtain ⟨_, q⟩ := x a _ r
    exact q
/-- what may be written -/
def Mut : Option HO → Prop
  | some (.lst _) => True
  | some (.dK _) => True
  | some (.dT _) => True
  | some (.set _ _) => True
  | some (.ins _ _ _) => True
  | some (.ext _) => True
  | _ => False
section
variable {P : Program} {w : World} {H : Hp} {h h' : Heap} {x e : Addr} {o' : HO}
/-- the object at e is changed: x itself, or the dict of the instance x -/
theorem HOk.write (ok : HOk P w H h) (mu : Mut (H x)) (he : e = x ∨ H e = some (.own x)) (k : ∀ b u, b ≠ e → h.get? b = some u → h'.get? b = some u) (heo : ∃ u, h'.get? e = some u)
    (new : ObjOk P w (upd H x o') h' x o') : HOk P w (upd H x o') h' := fun b u q => by
  have nown : ∀ c y, H c = some (.own y) → c ≠ x := fun c y r z => by subst z; rw [r] at mu; exact mu
  have ntup : ∀ c xs, H c = some (.tup xs) → c ≠ x := fun c xs r z => by subst z; rw [r] at mu; exact mu
  by_cases hb : b = x
  · subst hb; rw [upd_same] at q; cases q; exact new
  · rw [upd_ne hb] at q
    by_cases hbe : b = e
    · have q' : H b = some (.own x) := by
        rcases he with z | z
        · exact absurd (hbe.trans z) hb
        · rw [hbe]; exact z
      rw [q] at q'; cases q'
      obtain ⟨v, hv⟩ := heo
      exact ⟨v, by rw [hbe]; exact hv⟩
    · refine (ok b u q).stay (fun c v hc r => k c v ?_ r) (fun c r => by rw [upd_ne (nown c b r)]; exact r) fun c xs r => by rw [upd_ne (ntup c xs r)]; exact r
      rcases hc with rfl | hc
      · exact hbe
      · rintro rfl
        rcases he with z | z
        · exact nown c b hc z
        · rw [hc] at z; cases z; exact hb rfl
end

/-! ### kept unless tracked; of the frames at fs (the callers') the slots may change (an exception that passes writes there); of the records at ex (iterators) nothing is said -/
structure Un (fs ex : List Addr) (H H' : Hp) (h h' : Heap) : Prop where
  keep : ∀ b o, h.get? b = some o → H b = none → b ∉ fs → b ∉ ex → h'.get? b = some o
  slot : ∀ b o, h.get? b = some o → H b = none → b ∈ fs → b ∉ ex → ∃ sl, h'.get? b = some { o with slots := sl }
  free : ∀ b o, h.get? b = some o → H b = none → b ∉ ex → H' b = none
  there : ∀ b o, h.get? b = some o → b ∉ ex → ∃ o', h'.get? b = some o'
  tups : ∀ b xs, H b = some (.tup xs) → H' b = some (.tup xs)
  frzs : ∀ b o u, H b = some (.frz o u) → H' b = some (.frz o u)
  tbls : ∀ b ps, H b = some (.tbl ps) → ∃ more, H' b = some (.tbl (ps ++ more))
section
variable {fs fs' ex ex' : List Addr} {H H1 H2 : Hp} {h h1 h2 h' : Heap} {a x e : Addr} {o : HO}
theorem Un.any (u : Un fs ex H H1 h h1) {b : Addr} {ob : Obj} (q : h.get? b = some ob) (n : H b = none) (hx : b ∉ ex) : ∃ sl, h1.get? b = some { ob with slots := sl } := by
  by_cases hb : b ∈ fs
  · exact u.slot b ob q n hb hx
  · exact ⟨ob.slots, u.keep b ob q n hb hx⟩
theorem Un.trans (a : Un fs ex H H1 h h1) (b : Un fs ex H1 H2 h1 h2) : Un fs ex H H2 h h2 where
  keep := fun c ob q n hc hx => b.keep c ob (a.keep c ob q n hc hx) (a.free c ob q n hx) hc hx
  slot := fun c ob q n hc hx => by
    obtain ⟨sl, e1⟩ := a.slot c ob q n hc hx
    obtain ⟨sl', e2⟩ := b.slot c _ e1 (a.free c ob q n hx) hc hx
    exact ⟨sl', e2⟩
  free := fun c ob q n hx => by
    obtain ⟨o', e1⟩ := a.there c ob q hx
    exact b.free c o' e1 (a.free c ob q n hx) hx
  there := fun c ob q hx => by
    obtain ⟨o', e1⟩ := a.there c ob q hx
    exact b.there c o' e1 hx
  tups := fun c xs q => b.tups c xs (a.tups c xs q)
  frzs := fun c ob xs q => b.frzs c ob xs (a.frzs c ob xs q)
  tbls := fun c ps q => by
    obtain ⟨m1, e1⟩ := a.tbls c ps q
    obtain ⟨m2, e2⟩ := b.tbls c _ e1
    exact ⟨m1 ++ m2, by rw [e2, Array.append_assoc]⟩
theorem Un.kept (k : ∀ b u, h.get? b = some u → h'.get? b = some u) : Un fs ex H H h h' :=
  ⟨fun b ob q _ _ _ => k b ob q, fun b ob q _ _ _ => ⟨ob.slots, k b ob q⟩, fun _ _ _ n _ => n, fun b ob q _ => ⟨ob, k b ob q⟩, fun _ _ q => q, fun _ _ _ q => q, fun _ ps q => ⟨#[], by rw [q]; simp⟩⟩
theorem Un.refl : Un fs ex H H h h := Un.kept fun _ _ q => q
theorem Un.laid (k : ∀ b u, h.get? b = some u → h'.get? b = some u) (hp : h.objs.size ≤ a) (hn : H a = none) : Un fs ex H (upd H a o) h h' where
  keep := fun b u q _ _ _ => k b u q
  slot := fun b u q _ _ _ => ⟨u.slots, k b u q⟩
  free := fun b u q n _ => by rw [upd_ne (Nat.ne_of_lt (Nat.lt_of_lt_of_le (Heap.lt_size q) hp))]; exact n
  there := fun b u q _ => ⟨u, k b u q⟩
  tups := fun b xs q => by rw [upd_ne (ne_of_none q hn)]; exact q
  frzs := fun b u xs q => by rw [upd_ne (ne_of_none q hn)]; exact q
  tbls := fun b ps q => ⟨#[], by rw [upd_ne (ne_of_none q hn), q]; simp⟩
theorem Un.write (mu : Mut (H x)) (he : e = x ∨ H e = some (.own x)) (k : ∀ b u, b ≠ e → h.get? b = some u → h'.get? b = some u) (heo : ∃ u, h'.get? e = some u) : Un fs ex H (upd H x o) h h' := by
  have hx : ∀ b, H b = none → b ≠ x := fun b n z => by subst z; rw [n] at mu; exact mu
  have hb : ∀ b, H b = none → b ≠ e := fun b n z => by
    subst z
    rcases he with r | r
    · exact hx b n r
    · rw [n] at r; cases r
  have hm : ∀ b u, H b = some u → ¬ Mut (some u) → b ≠ x := fun b u q nm z => by subst z; rw [q] at mu; exact nm mu
  refine ⟨fun b u q n _ _ => k b u (hb b n) q, fun b u q n _ _ => ⟨u.slots, k b u (hb b n) q⟩, fun b u q n _ => by rw [upd_ne (hx b n)]; exact n, fun b u q _ => ?_,
    fun b xs q => by rw [upd_ne (hm b _ q fun z => z)]; exact q, fun b u xs q => by rw [upd_ne (hm b _ q fun z => z)]; exact q, fun b ps q => ⟨#[], by rw [upd_ne (hm b _ q fun z => z), q]; simp⟩⟩
  by_cases hbe : b = e
  · subst hbe; exact heo
  · exact ⟨u, k b u hbe q⟩
theorem Un.mono (u : Un fs ex H H1 h h1) (hs : ∀ b ∈ fs, b ∈ fs') (hx : ∀ b ∈ ex, b ∈ ex') : Un fs' ex' H H1 h h1 :=
  ⟨fun b ob q n hb he => u.keep b ob q n (fun z => hb (hs b z)) fun z => he (hx b z), fun _ _ q n _ he => u.any q n fun z => he (hx _ z), fun b ob q n he => u.free b ob q n fun z => he (hx b z), fun b ob q he => u.there b ob q fun z => he (hx b z), u.tups, u.frzs, u.tbls⟩
end

/-! ### the heap without what is tracked -/
def trk (h : Heap) (H : Hp) : List Addr := (List.range h.objs.size).filter fun a => (H a).isSome
def hidT (h : Heap) (H : Hp) : Heap := PySem.W.hideAll h (trk h H)
theorem hidT_size (h : Heap) (H : Hp) : (hidT h H).objs.size = h.objs.size := PySem.W.hideAll_size _ _
theorem hidT_get {h : Heap} {H : Hp} {b : Addr} {o : Obj} (e : h.get? b = some o) (n : H b = none) : (hidT h H).get? b = some o :=
  PySem.W.hideAll_get _ e fun hm => by
    have q : (H b).isSome = true := (List.mem_filter.mp hm).2
    rw [n] at q; simp at q
theorem of_hidT {h : Heap} {H : Hp} {b : Addr} {o : Obj} (e : (hidT h H).get? b = some o) : h.get? b = some o ∧ H b = none := by
  have e' : h.get? b = some o := PySem.W.of_hideAll (trk h H) e
  refine ⟨e', ?_⟩
  cases q : H b with
  | none => rfl
  | some x =>
    have hm : b ∈ trk h H := List.mem_filter.mpr ⟨List.mem_range.mpr (Heap.lt_size e'), by simp [q]⟩
    have z : (hidT h H).get? b = none := PySem.W.hideAll_none (trk h H) hm
    rw [z] at e; cases e

/-! ### OpenK's ledger, filled with every new object but one -/
def allNews (g h : Heap) (L : Addr) : List (Addr × Obj) := (List.range h.objs.size).filterMap fun a => if a = L ∨ (g.get? a).isSome = true then none else (h.get? a).map fun o => (a, o)
def rest (g h : Heap) (L d : Addr) : List (Addr × Obj) := (allNews g h L).filter fun p => decide (p.1 ≠ d)
end L2

namespace L2
open PySem PySem.Spec PyProof.Rows

/-- the module's facts, over the base: the heap at the law's entry without what is tracked there -/
structure Mod (K : PySem.W.Frag) (mg : Str → Option Value) (base : Heap) : Prop where
  kin : K.In base
  glob : base.Ns mainGlobals mg
  blt : ∃ mb, base.Ns builtinsNs mb ∧ ∀ x : Str, x ≠ "__name__" → mb x = bootBuiltins x
  nolimit : base.NoLimit

/-- the context: a def's body (or a comprehension's block) running. base: fixed through the whole law; s₀, H₀: the entry; outer: the frames whose slots others may change (a def's callers); stack: all frames that run;
   ex: iterators that were made ahead of the entry and are walked here (a comprehension's); fn: the names whose cells were made at the entry (a def: all; a comprehension's block: its own); calm: not within an except suite; pn: pins that every state bears; xe: what is wanted of an exception that leaves the code -/
structure Cx where
  prog : Program
  w : World
  K : PySem.W.Frag
  mg : Str → Option Value
  base : Heap
  A : Around
  N : List Str
  s₀ : Shared
  H₀ : Hp
  env : Env
  outer : List Env
  stack : List Env
  ex : List Addr
  fn : Str → Bool
  calm : Bool
  pn : List (Addr × Obj)
  xe : Value → Shared → Prop
/-- the callers' frames -/
def frs (l : List Env) : List Addr := l.filterMap (·.frame)
abbrev Cx.fs (X : Cx) : List Addr := frs X.outer

def Vis (sc : Scope) (x : Str) : Prop := sc.names.lookup x = some .local ∨ sc.names.lookup x = some .cell ∨ sc.names.lookup x = some .free
def Loc (sc : Scope) (x : Str) : Prop := sc.names.lookup x = some .local ∨ sc.names.lookup x = some .cell
def Look (env : Env) (h : Heap) (m : Str → Option Value) (x : Str) (u : Value) : Prop :=
  (env.kindOf x = some .local ∧ m x = some u) ∨ ((env.kindOf x = some .cell ∨ env.kindOf x = some .free) ∧ ∃ c, env.cells.lookup x = some c ∧ h.IsCell c (some u))

structure Cx.Ok (X : Cx) : Prop where
  mod : Mod X.K X.mg X.base
  kind : X.env.scope.kind = .function
  glob : X.env.globals = mainGlobals
  blt : X.env.builtins = builtinsNs
  above : X.s₀.heap.objs.size ≤ X.env.locals
  inj : ∀ x y c, X.env.cells.lookup x = some c → X.env.cells.lookup y = some c → x = y
  has : ∀ x, (X.env.kindOf x = some .cell ∨ X.env.kindOf x = some .free) → ∃ c, X.env.cells.lookup x = some c
  cab : ∀ x c, X.fn x = true → X.env.cells.lookup x = some c → X.s₀.heap.objs.size ≤ c
  hd : X.calm = true → X.A.handled = none
  frames : X.A.frames = some X.stack
  stk : X.stack = X.outer ∨ (X.stack = X.env :: X.outer ∧ X.env.frame = some X.env.locals)
  exf : ∀ b ∈ X.ex, b ≠ X.env.locals ∧ ∀ x c, X.env.cells.lookup x = some c → c ≠ b
  bs : ∀ b o, X.base.get? b = some o → X.s₀.heap.get? b = some o ∧ X.H₀ b = none
  bsz : X.base.objs.size ≤ X.s₀.heap.objs.size
  noex : ∀ b o, X.base.get? b = some o → b ∉ X.ex
  exfs : ∀ b ∈ X.ex, b ∉ X.fs
  funs : X.s₀.heap.FunFrames X.base X.outer
  frf : ∀ b ∈ X.fs, X.H₀ b = none

structure Inv (X : Cx) (pins : List (Addr × Obj)) (σ : List (Option V)) (H : Hp) (s : Shared) : Prop where
  ok : X.Ok
  os : s.os = X.s₀.os
  bare : AllBare s.gens
  base : Un X.fs X.ex X.H₀ H X.s₀.heap s.heap
  loc : ∃ m, s.heap.Ns X.env.locals m ∧ ∀ (i : Nat) (x : Str) (v : V), X.N[i]? = some x → σ[i]? = some (some v) → Vis X.env.scope x → ∃ u, RelV v u ∧ Look X.env s.heap m x u
  cell : ∀ x c, X.env.cells.lookup x = some c → ∃ v, s.heap.IsCell c v
  free : H X.env.locals = none
  freeC : ∀ x c, X.env.cells.lookup x = some c → H c = none
  pin : ∀ p ∈ X.pn ++ pins, s.heap.get? p.1 = some p.2 ∧ H p.1 = none ∧ p.1 ≠ X.env.locals ∧ p.1 ∉ X.fs ∧ ∀ v, p.2.data ≠ .cell v
  hok : HOk X.prog X.w H s.heap
  len : σ.length = X.N.length

section
variable {X : Cx} {pins : List (Addr × Obj)} {σ : List (Option V)} {H H' : Hp} {s : Shared} {h' : Heap}

theorem Cx.Ok.nofr (ok : X.Ok) {b : Addr} {o : Obj} (e : X.base.get? b = some o) : b ∉ X.fs := fun hb => by
  have := (ok.funs.mem hb).1
  rw [e] at this; cases this
theorem Inv.bs (I : Inv X pins σ H s) : ∀ b o, X.base.get? b = some o → s.heap.get? b = some o ∧ H b = none := fun b o e =>
  ⟨I.base.keep b o (I.ok.bs b o e).1 (I.ok.bs b o e).2 (I.ok.nofr e) (I.ok.noex b o e), I.base.free b o (I.ok.bs b o e).1 (I.ok.bs b o e).2 (I.ok.noex b o e)⟩
theorem Inv.bk (I : Inv X pins σ H s) : ∀ b o, X.base.get? b = some o → s.heap.get? b = some o := fun b o e => (I.bs b o e).1
theorem Inv.mod (I : Inv X pins σ H s) : Mod X.K X.mg X.base := I.ok.mod
theorem Inv.kIn (I : Inv X pins σ H s) : X.K.In s.heap := I.ok.mod.kin.keeps I.bk
theorem Inv.nolimit (I : Inv X pins σ H s) : s.heap.NoLimit := I.ok.mod.nolimit.keeps I.bk
/-- the frame over the base: for OpenK's rules (K.In X.base is I.mod.kin) -/
theorem Inv.fr (I : Inv X pins σ H s) : ∃ m, Fr X.base X.env.locals s.heap m :=
  let ⟨m, hn, _⟩ := I.loc
  ⟨m, hn, I.bk, Nat.le_trans I.ok.bsz I.ok.above⟩
theorem Inv.lt (I : Inv X pins σ H s) : X.env.locals < s.heap.objs.size := let ⟨_, hn, _⟩ := I.loc; hn.lt
theorem Inv.sz (I : Inv X pins σ H s) : X.s₀.heap.objs.size ≤ s.heap.objs.size := Nat.le_trans I.ok.above (Nat.le_of_lt I.lt)
theorem Inv.nofs (I : Inv X pins σ H s) {a : Addr} (h : s.heap.objs.size ≤ a) : a ∉ X.fs := fun hb => by
  obtain ⟨_, o, ho, _⟩ := I.ok.funs.mem hb
  exact absurd (Nat.lt_of_lt_of_le (Heap.lt_size ho) (Nat.le_trans I.sz h)) (Nat.lt_irrefl _)
theorem Inv.cne (I : Inv X pins σ H s) : ∀ x c, X.env.cells.lookup x = some c → c ≠ X.env.locals := fun x c e z => by
  obtain ⟨v, o, ho, hd⟩ := I.cell x c e
  obtain ⟨m, ⟨o', es, ep, ho', hd', _⟩, _⟩ := I.loc
  rw [z, ho'] at ho; cases ho; rw [hd'] at hd; cases hd
theorem Inv.funs (I : Inv X pins σ H s) : s.heap.FunFrames X.base X.outer := by
  have all : ∀ (l : List Env), (∀ b ∈ frs l, b ∈ X.fs) → X.s₀.heap.FunFrames X.base l → s.heap.FunFrames X.base l := by
    intro l
    induction l with
    | nil => intro _ _; trivial
    | cons env r ih =>
      intro hs hl
      obtain ⟨hk, ⟨L, o, hf, hn, ho, hd⟩, hr⟩ := hl
      have hL : L ∈ X.fs := hs L (by unfold frs; rw [List.filterMap_cons, hf]; exact List.mem_cons_self)
      obtain ⟨sl, e⟩ := I.base.slot L o ho (I.ok.frf L hL) hL fun z => I.ok.exfs L z hL
      exact ⟨hk, ⟨L, _, hf, hn, e, hd⟩, ih (fun b hb => hs b (by unfold frs; rw [List.filterMap_cons, hf]; exact List.mem_cons_of_mem _ hb)) hr⟩
  exact all X.outer (fun _ hb => hb) I.ok.funs

/-- the frames that run, for a call -/
theorem Inv.stack (I : Inv X pins σ H s) : s.heap.FunFrames X.base X.stack := by
  rcases I.ok.stk with e | ⟨e, hf⟩
  · rw [e]; exact I.funs
  · rw [e]
    obtain ⟨m, hn, _⟩ := I.loc
    refine .cons (by rw [I.ok.kind]; decide) hf hn ?_ I.funs
    exact Heap.get?_none_of_le (Nat.le_trans I.ok.bsz I.ok.above)
theorem Inv.stkSub (I : Inv X pins σ H s) : ∀ b ∈ frs X.stack, b ∈ X.env.locals :: X.fs := fun b hb => by
  rcases I.ok.stk with e | ⟨e, hf⟩
  · rw [e] at hb; exact List.mem_cons_of_mem _ hb
  · rw [e] at hb
    unfold frs at hb
    rw [List.filterMap_cons, hf] at hb
    exact hb
theorem Inv.stkFree (I : Inv X pins σ H s) : ∀ b ∈ frs X.stack, H b = none := fun b hb => by
  rcases List.mem_cons.mp (I.stkSub b hb) with e | hb
  · rw [e]; exact I.free
  · obtain ⟨_, o, ho, _⟩ := I.ok.funs.mem hb
    exact I.base.free b o ho (I.ok.frf b hb) fun z => I.ok.exfs b z hb

/-- THE STEP: the untracked objects but the frame and the records at ch are kept (the callers' frames up to slots), the frame's map is kept, the new abstract heap is held -/
theorem Inv.step {g' : Array GenState} {t' : Nat} {d' : Drawn} {ch : List Addr} (I : Inv X pins σ H s)
    (hch : ∀ b ∈ ch, (b ∈ X.ex ∨ X.s₀.heap.objs.size ≤ b) ∧ b ≠ X.env.locals ∧ (∀ x c, X.env.cells.lookup x = some c → c ≠ b) ∧ ∀ p ∈ X.pn ++ pins, p.1 ≠ b)
    (keep : ∀ b o, b ≠ X.env.locals → b ∉ X.fs → b ∉ ch → s.heap.get? b = some o → H b = none → h'.get? b = some o)
    (slot : ∀ b o, b ≠ X.env.locals → b ∈ X.fs → b ∉ ch → s.heap.get? b = some o → H b = none → ∃ sl, h'.get? b = some { o with slots := sl }) (free : ∀ b o, b ∉ ch → s.heap.get? b = some o → H b = none → H' b = none)
    (there : ∀ b o, b ∉ ch → s.heap.get? b = some o → ∃ o', h'.get? b = some o')
    (tups : ∀ b xs, H b = some (.tup xs) → H' b = some (.tup xs)) (frzs : ∀ b o u, H b = some (.frz o u) → H' b = some (.frz o u)) (tbls : ∀ b ps, H b = some (.tbl ps) → ∃ more, H' b = some (.tbl (ps ++ more)))
    (ns : ∀ m, s.heap.Ns X.env.locals m → h'.Ns X.env.locals m) (hok : HOk X.prog X.w H' h') (hg : AllBare g') :
    Inv X pins σ H' { s with heap := h', gens := g', drawn := d', toks := t' } := by
  have neL : ∀ b o, X.s₀.heap.get? b = some o → b ≠ X.env.locals := fun b o e => Nat.ne_of_lt (Nat.lt_of_lt_of_le (Heap.lt_size e) I.ok.above)
  have neC : ∀ b o, X.s₀.heap.get? b = some o → b ∉ X.ex → b ∉ ch := fun b o e hx hb => by
    rcases (hch b hb).1 with z | z
    · exact hx z
    · exact absurd (Nat.lt_of_lt_of_le (Heap.lt_size e) z) (Nat.lt_irrefl _)
  have cellK : ∀ x c, X.env.cells.lookup x = some c → ∀ v, s.heap.IsCell c v → h'.IsCell c v := fun x c e v ⟨o, ho, hd⟩ => by
    have nch : c ∉ ch := fun z => (hch c z).2.2.1 x c e rfl
    by_cases hc : c ∈ X.fs
    · obtain ⟨sl, q⟩ := slot c o (I.cne x c e) hc nch ho (I.freeC x c e)
      exact ⟨_, q, hd⟩
    · exact ⟨o, keep c o (I.cne x c e) hc nch ho (I.freeC x c e), hd⟩
  refine ⟨I.ok, I.os, hg, ⟨fun b o e n hb hx => ?_, fun b o e n hb hx => ?_, fun b o e n hx => ?_, fun b o e hx => ?_, fun b xs e => tups b xs (I.base.tups b xs e), fun b o xs e => frzs b o xs (I.base.frzs b o xs e), fun b ps e => ?_⟩, ?_, fun x c e => ?_, ?_, fun x c e => ?_, fun p hp => ?_, hok, I.len⟩
  · exact keep b o (neL b o e) hb (neC b o e hx) (I.base.keep b o e n hb hx) (I.base.free b o e n hx)
  · obtain ⟨sl, e1⟩ := I.base.slot b o e n hb hx
    obtain ⟨sl', e2⟩ := slot b _ (neL b o e) hb (neC b o e hx) e1 (I.base.free b o e n hx)
    exact ⟨sl', e2⟩
  · obtain ⟨o', e1⟩ := I.base.there b o e hx
    exact free b o' (neC b o e hx) e1 (I.base.free b o e n hx)
  · obtain ⟨o', e1⟩ := I.base.there b o e hx
    exact there b o' (neC b o e hx) e1
  · obtain ⟨m1, e1⟩ := I.base.tbls b ps e
    obtain ⟨m2, e2⟩ := tbls b _ e1
    exact ⟨m1 ++ m2, by rw [e2, Array.append_assoc]⟩
  · obtain ⟨m, hn, hl⟩ := I.loc
    refine ⟨m, ns m hn, fun i x v e1 e2 e3 => ?_⟩
    obtain ⟨u, r, l⟩ := hl i x v e1 e2 e3
    refine ⟨u, r, ?_⟩
    rcases l with l | ⟨k, c, e, z⟩
    · exact .inl l
    · exact .inr ⟨k, c, e, cellK x c e _ z⟩
  · obtain ⟨v, z⟩ := I.cell x c e
    exact ⟨v, cellK x c e v z⟩
  · obtain ⟨m, ⟨o, _, _, ho, _⟩, _⟩ := I.loc
    exact free _ o (fun z => (hch _ z).2.1 rfl) ho I.free
  · obtain ⟨v, o, ho, hd⟩ := I.cell x c e
    exact free c o (fun z => (hch c z).2.2.1 x c e rfl) ho (I.freeC x c e)
  · obtain ⟨e, n, ne, nf, d⟩ := I.pin p hp
    have nch : p.1 ∉ ch := fun z => (hch p.1 z).2.2.2 p hp rfl
    exact ⟨keep p.1 p.2 ne nf nch e n, free p.1 p.2 nch e n, ne, nf, d⟩
/-- .. where the frame's own object is kept too -/
theorem Inv.un {t' : Nat} (I : Inv X pins σ H s) (u : Un X.fs [] H H' s.heap h') (hok : HOk X.prog X.w H' h') : Inv X pins σ H' { s with heap := h', toks := t' } := by
  obtain ⟨m, ⟨o, es, ep, ho, r⟩, _⟩ := id I.loc
  obtain ⟨sl, hL⟩ := u.any ho I.free (by simp)
  exact I.step (g' := s.gens) (d' := s.drawn) (ch := []) (fun _ z => nomatch z) (fun b o _ hb _ e n => u.keep b o e n hb (by simp)) (fun b o _ hb _ e n => u.slot b o e n hb (by simp)) (fun b o _ e n => u.free b o e n (by simp)) (fun b o _ e => u.there b o e (by simp)) u.tups u.frzs u.tbls (fun m' hm => by
    obtain ⟨o', es', ep', ho', r'⟩ := hm
    rw [ho] at ho'; cases ho'
    exact ⟨_, es', ep', hL, r'⟩) hok I.bare
/-- behind a call (or a comprehension's block): the slots of this frame may have changed too, the records at ch may have turned -/
theorem Inv.call {g' : Array GenState} {t' : Nat} {d' : Drawn} {ch : List Addr} (I : Inv X pins σ H s) (u : Un (frs X.stack) ch H H' s.heap h') (hok : HOk X.prog X.w H' h') (hg : AllBare g')
    (hch : ∀ b ∈ ch, (b ∈ X.ex ∨ X.s₀.heap.objs.size ≤ b) ∧ b ≠ X.env.locals ∧ (∀ x c, X.env.cells.lookup x = some c → c ≠ b) ∧ ∀ p ∈ X.pn ++ pins, p.1 ≠ b) :
    Inv X pins σ H' { s with heap := h', gens := g', drawn := d', toks := t' } := by
  obtain ⟨m, ⟨o, es, ep, ho, r⟩, _⟩ := id I.loc
  obtain ⟨sl, hL⟩ := u.any ho I.free fun z => (hch _ z).2.1 rfl
  exact I.step (ch := ch) hch (fun b o hL hb hc e n => u.keep b o e n (fun z => (List.mem_cons.mp (I.stkSub b z)).elim hL hb) hc) (fun b o _ _ hc e n => u.any e n hc) (fun b o hc e n => u.free b o e n hc) (fun b o hc e => u.there b o e hc) u.tups u.frzs u.tbls (fun m' hm => by
    obtain ⟨o', es', ep', ho', r'⟩ := hm
    rw [ho] at ho'; cases ho'
    exact ⟨_, es', ep', hL, r'⟩) hok hg
/-- an untracked record of ours (an iterator) has turned -/
theorem Inv.turned {t' : Nat} {it : Addr} (I : Inv X pins σ H s) (k : ∀ b o, b ≠ it → s.heap.get? b = some o → h'.get? b = some o) (hn : H it = none) (hL : it ≠ X.env.locals)
    (h1 : it ∈ X.ex ∨ X.s₀.heap.objs.size ≤ it) (h2 : ∀ x c, X.env.cells.lookup x = some c → c ≠ it) (h3 : ∀ p ∈ X.pn ++ pins, p.1 ≠ it) : Inv X pins σ H { s with heap := h', toks := t' } := by
  have nit : ∀ b u, H b = some u → b ≠ it := fun b u e z => by rw [z, hn] at e; cases e
  refine I.step (g' := s.gens) (d' := s.drawn) (ch := [it]) (fun b hb => ?_) (fun b o _ _ hc e _ => k b o (fun z => hc (by simp [z])) e) (fun b o _ _ hc e _ => ⟨o.slots, k b o (fun z => hc (by simp [z])) e⟩) (fun _ _ _ _ n => n)
    (fun b o hc e => ⟨o, k b o (fun z => hc (by simp [z])) e⟩) (fun _ _ e => e) (fun _ _ _ e => e) (fun b ps e => ⟨#[], by rw [e]; simp⟩) (fun m hm => ?_) (fun b u e => ?_) I.bare
  · have e : b = it := by simpa using hb
    subst e
    exact ⟨h1, hL, h2, h3⟩
  · obtain ⟨o, es, ep, ho, r⟩ := hm
    exact ⟨o, es, ep, k _ o (Ne.symm hL) ho, r⟩
  · refine (I.hok b u e).stay (fun c v hc q => k c v ?_ q) (fun _ q => q) fun _ _ q => q
    rcases hc with z | z
    · rw [z]; exact nit b u e
    · exact nit c _ z
theorem Inv.tok (I : Inv X pins σ H s) (t : Nat) : Inv X pins σ H { s with toks := t } := I.un (h' := s.heap) (t' := t) Un.refl I.hok
/-- all objects kept -/
theorem Inv.kept {t' : Nat} (I : Inv X pins σ H s) (k : ∀ b u, s.heap.get? b = some u → h'.get? b = some u) : Inv X pins σ H { s with heap := h', toks := t' } := I.un (Un.kept k) (I.hok.kept k)
/-- a new object laid and tracked -/
theorem Inv.laid {a : Addr} {o : HO} {t' : Nat} (I : Inv X pins σ H s) (k : ∀ b u, s.heap.get? b = some u → h'.get? b = some u) (hp : s.heap.objs.size ≤ a) (new : ObjOk X.prog X.w (upd H a o) h' a o) :
    Inv X pins σ (upd H a o) { s with heap := h', toks := t' } := I.un (Un.laid k hp (I.hok.fresh hp)) (I.hok.laid k hp new)
/-- an object written -/
theorem Inv.write {x e : Addr} {o : HO} {t' : Nat} (I : Inv X pins σ H s) (mu : Mut (H x)) (he : e = x ∨ H e = some (.own x)) (k : ∀ b u, b ≠ e → s.heap.get? b = some u → h'.get? b = some u) (heo : ∃ u, h'.get? e = some u)
    (new : ObjOk X.prog X.w (upd H x o) h' x o) : Inv X pins σ (upd H x o) { s with heap := h', toks := t' } := I.un (Un.write mu he k heo) (I.hok.write mu he k heo new)
theorem Inv.pins_of {pins' : List (Addr × Obj)} (I : Inv X pins σ H s) (h : ∀ p ∈ pins', s.heap.get? p.1 = some p.2 ∧ H p.1 = none ∧ p.1 ≠ X.env.locals ∧ p.1 ∉ X.fs ∧ ∀ v, p.2.data ≠ .cell v) : Inv X pins' σ H s :=
  ⟨I.ok, I.os, I.bare, I.base, I.loc, I.cell, I.free, I.freeC, fun p hp => (List.mem_append.mp hp).elim (fun z => I.pin p (List.mem_append_left _ z)) (h p), I.hok, I.len⟩

theorem nodup_ix {N : List Str} (hN : N.Nodup) {i j : Nat} {x : Str} (a : N[i]? = some x) (b : N[j]? = some x) : i = j := by
  obtain ⟨h1, e1⟩ := List.getElem?_eq_some_iff.mp a
  obtain ⟨h2, e2⟩ := List.getElem?_eq_some_iff.mp b
  exact (List.getElem_inj hN).mp (e1.trans e2.symm)

/-- a name is stored; what changed -/
theorem store_ok2 {M : Model} {A : Around} {E : Value → Shared → Prop} {i : Nat} {x : Str} {v : V} {u : Value} {Q : Unit → Shared → Prop} (I : Inv X pins σ H s) (hN : X.N.Nodup) (hi : X.N[i]? = some x) (hx : Loc X.env.scope x) (r : RelV v u)
    (h : ∀ s', Inv X pins (σ.set i (some v)) H s' → (∃ a, Heap.SameBut a s.heap s'.heap ∧ (a = X.env.locals ∨ X.env.cells.lookup x = some a)) → Q () s') (hf : X.fn x = true ∨ X.env.scope.names.lookup x = some .local := by first | exact .inl rfl | exact .inr rfl | assumption) : wpAny M A (storeName X.env x u) Q E s := by
  obtain ⟨m, hn, hl⟩ := id I.loc
  have hcls : (X.env.scope.kind == .class || (X.env.scope.kind == .module && X.env.locals != X.env.globals)) = false := by rw [I.ok.kind]; rfl
  have hiσ : i < σ.length := by rw [I.len]; exact (List.getElem?_eq_some_iff.mp hi).1
  have cne := I.cne
  have tracked : ∀ {a : Addr} {h' : Heap}, (∃ o, s.heap.get? a = some o ∧ H a = none) → Heap.SameBut a s.heap h' → HOk X.prog X.w H h' := fun {a h'} ha hs b ob e => by
    obtain ⟨_, _, hfree⟩ := ha
    refine (I.hok b ob e).stay (fun c w' hc q => (hs.2 c ?_).trans q) (fun _ q => q) fun _ _ q => q
    rintro rfl
    rcases hc with rfl | hc
    · rw [hfree] at e; cases e
    · rw [hfree] at hc; cases hc
  rcases hx with hk | hk
  · refine wpAny_storeName_local hk hn (fun h' hn' hs => ?_) hcls
    obtain ⟨oL, _, _, hoL, _⟩ := id hn
    refine h _ ⟨I.ok, I.os, I.bare, ⟨fun b o e n hb hx => ?_, fun b o e n hb hx => ?_, I.base.free, fun b o e hx => ?_, I.base.tups, I.base.frzs, I.base.tbls⟩, ⟨_, hn', fun j y v' e1 e2 e3 => ?_⟩, fun y c e => ?_, I.free, I.freeC, fun p hp => ?_, tracked ⟨oL, hoL, I.free⟩ hs, by simpa using I.len⟩ ⟨_, hs, .inl rfl⟩
    · exact (hs.2 b (Nat.ne_of_lt (Nat.lt_of_lt_of_le (Heap.lt_size e) I.ok.above))).trans (I.base.keep b o e n hb hx)
    · obtain ⟨sl, e1⟩ := I.base.slot b o e n hb hx
      exact ⟨sl, (hs.2 b (Nat.ne_of_lt (Nat.lt_of_lt_of_le (Heap.lt_size e) I.ok.above))).trans e1⟩
    · obtain ⟨o', e1⟩ := I.base.there b o e hx
      exact ⟨o', (hs.2 b (Nat.ne_of_lt (Nat.lt_of_lt_of_le (Heap.lt_size e) I.ok.above))).trans e1⟩
    · by_cases hj : j = i
      · subst hj
        rw [hi] at e1; cases e1
        rw [List.getElem?_set_self hiσ] at e2
        cases e2
        exact ⟨u, r, .inl ⟨hk, by simp⟩⟩
      · rw [List.getElem?_set_ne (Ne.symm hj)] at e2
        obtain ⟨u', r', q⟩ := hl j y v' e1 e2 e3
        refine ⟨u', r', ?_⟩
        rcases q with ⟨k, e⟩ | ⟨k, c, e, z⟩
        · refine .inl ⟨k, ?_⟩
          have : y ≠ x := fun e => hj (nodup_ix hN e1 (e ▸ hi))
          simp [this, e]
        · exact .inr ⟨k, c, e, z.sameBut hs (cne y c e)⟩
    · obtain ⟨w', z⟩ := I.cell y c e
      exact ⟨w', z.sameBut hs (cne y c e)⟩
    · obtain ⟨e, n, ne, nf, d⟩ := I.pin p hp
      exact ⟨(hs.2 p.1 ne).trans e, n, ne, nf, d⟩
  · have hfn : X.fn x = true := by
      rcases hf with z | z
      · exact z
      · rw [z] at hk; cases hk
    obtain ⟨c, hc⟩ := I.ok.has x (.inl hk)
    obtain ⟨w', z⟩ := I.cell x c hc
    refine wpAny_storeName_cell I.ok.kind hk hc z (fun h' hc' hs => ?_)
    obtain ⟨oc, hoc, hocd⟩ := id z
    refine h { s with heap := h' } ⟨I.ok, I.os, I.bare, ⟨fun b o e n hb hx => ?_, fun b o e n hb hx => ?_, I.base.free, fun b o e hx => ?_, I.base.tups, I.base.frzs, I.base.tbls⟩, ⟨m, hn.sameBut hs (Ne.symm (cne x c hc)), fun j y v' e1 e2 e3 => ?_⟩, fun y c' e => ?_, I.free, I.freeC, fun p hp => ?_, tracked ⟨oc, hoc, I.freeC x c hc⟩ hs, by simpa using I.len⟩ ⟨c, hs, .inr hc⟩
    · exact (hs.2 b (Nat.ne_of_lt (Nat.lt_of_lt_of_le (Heap.lt_size e) (I.ok.cab x c hfn hc)))).trans (I.base.keep b o e n hb hx)
    · obtain ⟨sl, e1⟩ := I.base.slot b o e n hb hx
      exact ⟨sl, (hs.2 b (Nat.ne_of_lt (Nat.lt_of_lt_of_le (Heap.lt_size e) (I.ok.cab x c hfn hc)))).trans e1⟩
    · obtain ⟨o', e1⟩ := I.base.there b o e hx
      exact ⟨o', (hs.2 b (Nat.ne_of_lt (Nat.lt_of_lt_of_le (Heap.lt_size e) (I.ok.cab x c hfn hc)))).trans e1⟩
    · by_cases hj : j = i
      · subst hj
        rw [hi] at e1; cases e1
        rw [List.getElem?_set_self hiσ] at e2
        cases e2
        exact ⟨u, r, .inr ⟨.inl hk, c, hc, hc'⟩⟩
      · rw [List.getElem?_set_ne (Ne.symm hj)] at e2
        obtain ⟨u', r', q⟩ := hl j y v' e1 e2 e3
        refine ⟨u', r', ?_⟩
        rcases q with q | ⟨k, c', e, z'⟩
        · exact .inl q
        · refine .inr ⟨k, c', e, z'.sameBut hs ?_⟩
          rintro rfl
          exact hj (nodup_ix hN e1 (I.ok.inj _ _ _ e hc ▸ hi))
    · by_cases hcc : c' = c
      · subst hcc; exact ⟨_, hc'⟩
      · obtain ⟨w2, z2⟩ := I.cell y c' e
        exact ⟨w2, z2.sameBut hs hcc⟩
    · obtain ⟨e, n, ne, nf, d⟩ := I.pin p hp
      refine ⟨(hs.2 p.1 ?_).trans e, n, ne, nf, d⟩
      intro q
      rw [q, hoc] at e
      have q' : oc = p.2 := Option.some.inj e
      exact d w' (by rw [← q']; exact hocd)
theorem store_ok {M : Model} {A : Around} {E : Value → Shared → Prop} {i : Nat} {x : Str} {v : V} {u : Value} {Q : Unit → Shared → Prop} (I : Inv X pins σ H s) (hN : X.N.Nodup) (hi : X.N[i]? = some x) (hx : Loc X.env.scope x) (r : RelV v u)
    (h : ∀ s', Inv X pins (σ.set i (some v)) H s' → Q () s') (hf : X.fn x = true ∨ X.env.scope.names.lookup x = some .local := by first | exact .inl rfl | exact .inr rfl | assumption) : wpAny M A (storeName X.env x u) Q E s :=
  store_ok2 I hN hi hx r (fun s' I' _ => h s' I') hf
/-- behind a call or a block, the state as it is -/
theorem Inv.call' {s' : Shared} {ch : List Addr} (I : Inv X pins σ H s) (ho : s'.os = s.os) (u : Un (frs X.stack) ch H H' s.heap s'.heap) (hok : HOk X.prog X.w H' s'.heap) (hg : AllBare s'.gens)
    (hch : ∀ b ∈ ch, (b ∈ X.ex ∨ X.s₀.heap.objs.size ≤ b) ∧ b ≠ X.env.locals ∧ (∀ x c, X.env.cells.lookup x = some c → c ≠ b) ∧ ∀ p ∈ X.pn ++ pins, p.1 ≠ b) : Inv X pins σ H' s' := by
  obtain ⟨h', g', d', t', o'⟩ := s'
  have e : o' = s.os := ho
  subst e
  exact I.call (g' := g') (t' := t') (d' := d') u hok hg hch
end

/-! ### the judgements -/
/-- an exception: its class, its own dict's address (where it has one), the abstract heap behind it -/
abbrev XK := Value → Option Addr → Hp → Prop
abbrev St := List (Option V)
abbrev VK := V → Hp → Prop
/-- an expression's reading; a test's; an argument list's -/
abbrev TE := St → Hp → VK → Prop
abbrev TT := St → Hp → (Bool → Hp → Prop) → Prop
abbrev TA := St → Hp → (List V → Hp → Prop) → Prop
/-- what is wanted behind a statement -/
structure Ends where
  nx : St → Hp → Prop
  rt : VK
  bk : St → Hp → Prop := fun _ _ => False
  ct : St → Hp → Prop := fun _ _ => False
abbrev TS := Ends → St → Hp → Prop

def EP (X : Cx) (pins : List (Addr × Obj)) (σ : St) (Q : VK) (u : Value) (s' : Shared) : Prop := ∃ v H', Inv X pins σ H' s' ∧ RelV v u ∧ Q v H'
def TP (X : Cx) (pins : List (Addr × Obj)) (σ : St) (Q : Bool → Hp → Prop) (b : Bool) (s' : Shared) : Prop := ∃ H', Inv X pins σ H' s' ∧ Q b H'
def AP (X : Cx) (pins : List (Addr × Obj)) (σ : St) (Q : List V → Hp → Prop) (us : List Value) (s' : Shared) : Prop := ∃ vs H', Inv X pins σ H' s' ∧ Vals vs us ∧ Q vs H'
def SP (X : Cx) (pins : List (Addr × Obj)) (D : Ends) (f : Flow) (s' : Shared) : Prop :=
  match f with
  | .next => ∃ σ' H', Inv X pins σ' H' s' ∧ D.nx σ' H'
  | .brk => ∃ σ' H', Inv X pins σ' H' s' ∧ D.bk σ' H'
  | .cont => ∃ σ' H', Inv X pins σ' H' s' ∧ D.ct σ' H'
  | .ret u => ∃ v σ' H', Inv X pins σ' H' s' ∧ RelV v u ∧ D.rt v H'

structure PE (X : Cx) (e : Expr) (t : TE) : Prop where
  go : ∀ (pins : List (Addr × Obj)) (s : Shared) (σ : St) (H : Hp) (Q : VK), Inv X pins σ H s → t σ H Q → wpAny (model X.prog X.w) X.A (eval e X.env) (EP X pins σ Q) X.xe s
instance {X : Cx} {e : Expr} {t : TE} : CoeFun (PE X e t) (fun _ => ∀ (pins : List (Addr × Obj)) (s : Shared) (σ : St) (H : Hp) (Q : VK), Inv X pins σ H s → t σ H Q → wpAny (model X.prog X.w) X.A (eval e X.env) (EP X pins σ Q) X.xe s) := ⟨PE.go⟩
structure PT (X : Cx) (e : Expr) (t : TT) : Prop where
  go : ∀ (pins : List (Addr × Obj)) (s : Shared) (σ : St) (H : Hp) (Q : Bool → Hp → Prop), Inv X pins σ H s → t σ H Q → wpAny (model X.prog X.w) X.A (isTrue e X.env (eval e X.env)) (TP X pins σ Q) X.xe s
instance {X : Cx} {e : Expr} {t : TT} : CoeFun (PT X e t) (fun _ => ∀ (pins : List (Addr × Obj)) (s : Shared) (σ : St) (H : Hp) (Q : Bool → Hp → Prop), Inv X pins σ H s → t σ H Q → wpAny (model X.prog X.w) X.A (isTrue e X.env (eval e X.env)) (TP X pins σ Q) X.xe s) := ⟨PT.go⟩
/-- a test whatever its 'whole' is (and, or) -/
def PW (X : Cx) (e : Expr) (t : TT) : Prop :=
  ∀ (whole : Sem Value) (pins : List (Addr × Obj)) (s : Shared) (σ : St) (H : Hp) (Q : Bool → Hp → Prop), Inv X pins σ H s → t σ H Q → wpAny (model X.prog X.w) X.A (isTrue e X.env whole) (TP X pins σ Q) X.xe s
theorem PW.pt {X : Cx} {e : Expr} {t : TT} (h : PW X e t) : PT X e t := ⟨h _⟩
/-- an argument list (no star), from the left -/
structure PA (X : Cx) (es : List Expr) (t : TA) : Prop where
  go : ∀ (pos : Pos) (pins : List (Addr × Obj)) (s : Shared) (σ : St) (H : Hp) (Q : List V → Hp → Prop), Inv X pins σ H s → t σ H Q → wpAny (model X.prog X.w) X.A (spliced (backTo pos (starEach es X.env))) (AP X pins σ Q) X.xe s
instance {X : Cx} {es : List Expr} {t : TA} : CoeFun (PA X es t) (fun _ => ∀ (pos : Pos) (pins : List (Addr × Obj)) (s : Shared) (σ : St) (H : Hp) (Q : List V → Hp → Prop), Inv X pins σ H s → t σ H Q → wpAny (model X.prog X.w) X.A (spliced (backTo pos (starEach es X.env))) (AP X pins σ Q) X.xe s) := ⟨PA.go⟩
structure PS (X : Cx) (st : Stmt) (t : TS) : Prop where
  go : ∀ (pins : List (Addr × Obj)) (s : Shared) (σ : St) (H : Hp) (D : Ends), Inv X pins σ H s → t D σ H → wpAny (model X.prog X.w) X.A (exec st X.env) (SP X pins D) X.xe s
instance {X : Cx} {st : Stmt} {t : TS} : CoeFun (PS X st t) (fun _ => ∀ (pins : List (Addr × Obj)) (s : Shared) (σ : St) (H : Hp) (D : Ends), Inv X pins σ H s → t D σ H → wpAny (model X.prog X.w) X.A (exec st X.env) (SP X pins D) X.xe s) := ⟨PS.go⟩
structure PSs (X : Cx) (st : List Stmt) (t : TS) : Prop where
  go : ∀ (pins : List (Addr × Obj)) (s : Shared) (σ : St) (H : Hp) (D : Ends), Inv X pins σ H s → t D σ H → wpAny (model X.prog X.w) X.A (execs st X.env) (SP X pins D) X.xe s
instance {X : Cx} {st : List Stmt} {t : TS} : CoeFun (PSs X st t) (fun _ => ∀ (pins : List (Addr × Obj)) (s : Shared) (σ : St) (H : Hp) (D : Ends), Inv X pins σ H s → t D σ H → wpAny (model X.prog X.w) X.A (execs st X.env) (SP X pins D) X.xe s) := ⟨PSs.go⟩
/-- weaken the end -/
theorem thn {α : Type} {t : Sem α} {Q Q' : α → Shared → Prop} {M : Model} {A : Around} {E : Value → Shared → Prop} {s : Shared} (h : wpAny M A t Q E s) (hQ : ∀ a s, Q a s → Q' a s) : wpAny M A t Q' E s := wpAny_mono h hQ fun _ _ x => x
end L2

namespace L2
open PySem PySem.Spec PyProof.Rows
section
variable {X : Cx}

/-! ### names and constants -/
def tVar (i : Nat) : TE := fun σ H Q => ∃ v, σ[i]? = some (some v) ∧ Q v H
def tC (v : V) : TE := fun _ H Q => Q v H
theorem pe_var {i : Nat} {x : Str} {pos : Pos} (hN : X.N[i]? = some x) (hv : Vis X.env.scope x) (hd : (x == ("__debug__" : Str)) = false := by decide) (hcd : (x == ("__classdict__" : Str)) = false := by decide) : PE X (.Name x pos) (tVar i) := by
  refine .mk fun pins s σ H Q I h => ?_
  obtain ⟨v, e, h⟩ := h
  obtain ⟨m, hn, hl⟩ := I.loc
  obtain ⟨u, r, l⟩ := hl i x v hN e hv
  have fin : EP X pins σ Q u s := ⟨v, H, I, r, h⟩
  rcases l with ⟨hk, hm⟩ | ⟨hk, c, hc, hcell⟩
  · exact wpAny_Name (wpAny_loadName_local I.ok.kind hk hn hm fin) hd
  · rcases hk with hk | hk
    · exact wpAny_Name (wpAny_loadName_cell I.ok.kind hk hc hcell fin) hd
    · exact wpAny_Name (wpAny_loadName_free I.ok.kind hk hc hcell fin hcd) hd
theorem pe_int {i j pos} : PE X (.Constant (.int i) j pos) (tC (.int i)) := .mk fun _ _ _ H _ I h => wpAny_Constant_int ⟨.int i, H, I.tok _, ⟨_, rfl⟩, h⟩
theorem pe_bl {b j pos} : PE X (.Constant (.bool b) j pos) (tC (.bl b)) := .mk fun _ _ _ H _ I h => Constant_bool ⟨.bl b, H, I, rfl, h⟩
theorem pe_non {j pos} : PE X (.Constant .none j pos) (tC .non) := .mk fun _ _ _ H _ I h => Constant_none ⟨.non, H, I, rfl, h⟩
theorem pe_str {x j pos} : PE X (.Constant (.str x) j pos) (tC (.str x)) := .mk fun _ _ _ H _ I h => Calls.Constant_str ⟨.str x, H, I.tok _, ⟨_, rfl⟩, h⟩

/-- a global name of the def -/
def Gl (X : Cx) (x : Str) : Prop := X.env.kindOf x = some .globalImplicit
theorem ld_glob {E : Value → Shared → Prop} {pins : List (Addr × Obj)} {s : Shared} {σ : St} {H : Hp} {x : Str} {u : Value} {pos : Pos} {Q : Value → Shared → Prop} (I : Inv X pins σ H s) (hg : Gl X x) (hm : X.mg x = some u) (h : Q u s)
    (hd : (x == ("__debug__" : Str)) = false := by decide) : wpAny (model X.prog X.w) X.A (eval (.Name x pos) X.env) Q E s :=
  Calls.Name_function_global I.ok.kind hg (Calls.loadGlobal_global (by rw [I.ok.glob]; exact I.mod.glob.keeps I.bk) hm h) hd
theorem ld_blt {E : Value → Shared → Prop} {pins : List (Addr × Obj)} {s : Shared} {σ : St} {H : Hp} {x : Str} {u : Value} {pos : Pos} {Q : Value → Shared → Prop} (I : Inv X pins σ H s) (hg : Gl X x) (hm : X.mg x = none) (hv : bootBuiltins x = some u) (h : Q u s)
    (hn : x ≠ "__name__" := by decide) (hd : (x == ("__debug__" : Str)) = false := by decide) : wpAny (model X.prog X.w) X.A (eval (.Name x pos) X.env) Q E s := by
  obtain ⟨mb, h1, h2⟩ := I.mod.blt
  exact Calls.Name_function_global I.ok.kind hg (Calls.loadGlobal_builtin (by rw [I.ok.glob]; exact I.mod.glob.keeps I.bk) hm (by rw [I.ok.blt]; exact h1.keeps I.bk) ((h2 x hn).trans hv) h) hd
/-- a module's constant, a class, a function, as a value -/
theorem pe_glob {x : Str} {v : V} {u : Value} {pos : Pos} (hg : Gl X x) (hm : X.mg x = some u) (r : RelV v u) (hd : (x == ("__debug__" : Str)) = false := by decide) : PE X (.Name x pos) (tC v) := .mk
  fun _ _ _ H _ I h => ld_glob I hg hm ⟨v, H, I, r, h⟩ hd
theorem pe_bltn {x : Str} {v : V} {u : Value} {pos : Pos} (hg : Gl X x) (hm : X.mg x = none) (hv : bootBuiltins x = some u) (r : RelV v u) (hn : x ≠ "__name__" := by decide) (hd : (x == ("__debug__" : Str)) = false := by decide) : PE X (.Name x pos) (tC v) := .mk
  fun _ _ _ H _ I h => ld_blt I hg hm hv ⟨v, H, I, r, h⟩ hn hd

/-! ### arithmetic -/
variable {a b : Expr} {ta tb : TE} {pos : Pos}
/-! ### comparisons -/
def PC (X : Cx) (op : CmpOp) (a b : Expr) (t : TE) : Prop :=
  ∀ (pins : List (Addr × Obj)) (s : Shared) (σ : St) (H : Hp) (Q : VK), Inv X pins σ H s → t σ H Q →
    wpAny (model X.prog X.w) X.A (eval a X.env) (fun v s₁ => wpAny (model X.prog X.w) X.A (eval b X.env) (fun u s₂ => wpAny (model X.prog X.w) X.A (compareOp op v u) (EP X pins σ Q) X.xe s₂) X.xe s₁) X.xe s
theorem nobehind (b : Expr) {op : CmpOp} (h : op ≠ .In) (h2 : op ≠ .NotIn) : behindInMarks op b = false := by
  have e1 : (op == CmpOp.In) = false := by cases op <;> first | rfl | exact absurd rfl h
  have e2 : (op == CmpOp.NotIn) = false := by cases op <;> first | rfl | exact absurd rfl h2
  cases b <;> simp [behindInMarks, e1, e2]
/-- a comparison as a value, as a test -/
def tB (t : TE) : TT := fun σ H Q => t σ H fun x H1 => ∃ c, x = .bl c ∧ Q c H1
theorem pt_cmp {op : CmpOp} {t : TE} (h : PC X op a b t) (h1 : behindInMarks op b = false := by first | exact nobehind _ (by decide) (by decide) | rfl) : PT X (.Compare a [op] [b] pos) (tB t) := by
  refine .mk fun pins s σ H Q I hw => ?_
  refine wpAny_isTrue_Compare1 (thn (h pins s σ H _ I hw) fun v s1 h1 => thn h1 fun u s2 h2 => thn h2 fun c s3 ⟨x, H1, I1, r1, q1⟩ => ?_) h1
  obtain ⟨d, rfl, q⟩ := q1
  cases r1
  exact wpAny_truthy_bool ⟨H1, I1, q⟩
/-- an expression whose value is a bool, as a test -/
theorem pt_val {e : Expr} {t : TE} (h : PE X e t) (he : ∀ whole, isTrue e X.env whole = (do let v ← whole; standAt e.pos; holding [v] (truthy v)) := by intro _; rfl) : PT X e (tB t) := by
  refine .mk fun pins s σ H Q I hw => ?_
  refine isTrue_plain (thn (h pins s σ H _ I hw) fun v s1 ⟨x, H1, I1, r1, q1⟩ => ?_) (he _)
  obtain ⟨d, rfl, q⟩ := q1
  cases r1
  exact wpAny_truthy_bool ⟨H1, I1, q⟩

/-! ### and, or, not -/
variable {tA tB' : TT} {rest : List Expr}
def tAnd (t u : TT) : TT := fun σ H Q => t σ H fun c H1 => if c = true then u σ H1 Q else Q false H1
def tOr (t u : TT) : TT := fun σ H Q => t σ H fun c H1 => if c = true then Q true H1 else u σ H1 Q
def tNot (t : TT) : TT := fun σ H Q => t σ H fun c H1 => Q (!c) H1
theorem pw_and1 (ha : PT X a tA) : PW X (.BoolOp .And [a] pos) tA := by
  intro wh pins s σ H Q I h
  refine isTrue_and (thn (ha pins s σ H Q I h) fun c s1 e => ?_)
  cases c with
  | true => exact isTrue_and_nil e
  | false => exact e
theorem pw_or1 (ha : PT X a tA) : PW X (.BoolOp .Or [a] pos) tA := by
  intro wh pins s σ H Q I h
  refine isTrue_or (thn (ha pins s σ H Q I h) fun c s1 e => ?_)
  cases c with
  | false => exact isTrue_or_nil e
  | true => exact e
theorem pw_and (ha : PT X a tA) (hb : PW X (.BoolOp .And (b :: rest) pos) tB') : PW X (.BoolOp .And (a :: b :: rest) pos) (tAnd tA tB') := by
  intro wh pins s σ H Q I h
  refine isTrue_and (thn (ha pins s σ H _ I h) fun c s1 ⟨H1, I1, q1⟩ => ?_)
  cases c with
  | true => exact hb wh pins s1 σ H1 Q I1 q1
  | false => exact ⟨H1, I1, q1⟩
theorem pw_or (ha : PT X a tA) (hb : PW X (.BoolOp .Or (b :: rest) pos) tB') : PW X (.BoolOp .Or (a :: b :: rest) pos) (tOr tA tB') := by
  intro wh pins s σ H Q I h
  refine isTrue_or (thn (ha pins s σ H _ I h) fun c s1 ⟨H1, I1, q1⟩ => ?_)
  cases c with
  | true => exact ⟨H1, I1, q1⟩
  | false => exact hb wh pins s1 σ H1 Q I1 q1
theorem pt_not (ha : PT X a tA) : PT X (.UnaryOp .Not a pos) (tNot tA) := by
  refine .mk fun pins s σ H Q I h => ?_
  exact isTrue_not (ha pins s σ H (fun c H1 => Q (!c) H1) I h)
/-- .. as values (bools) -/
def tAndV (ta tb : TE) : TE := fun σ H Q => ta σ H fun x H1 => ∃ c, x = .bl c ∧ if c = true then tb σ H1 Q else Q (.bl false) H1
def tOrV (ta tb : TE) : TE := fun σ H Q => ta σ H fun x H1 => ∃ c, x = .bl c ∧ if c = true then Q (.bl true) H1 else tb σ H1 Q
def tNotV (ta : TE) : TE := fun σ H Q => ta σ H fun x H1 => ∃ c, x = .bl c ∧ Q (.bl (!c)) H1
theorem pe_one {op} {t : TE} (h : PE X a t) : PE X (.BoolOp op [a] pos) t := .mk fun pins s σ H Q I hw => BoolOp_one (h pins s σ H Q I hw)
theorem pe_and (ha : PE X a ta) (hb : PE X (.BoolOp .And (b :: rest) pos) tb) : PE X (.BoolOp .And (a :: b :: rest) pos) (tAndV ta tb) := by
  refine .mk fun pins s σ H Q I h => ?_
  refine BoolOp_and (thn (ha pins s σ H _ I h) fun v s1 ⟨x, H1, I1, r1, q1⟩ => ?_)
  obtain ⟨c, rfl, q1⟩ := q1
  cases r1
  refine wpAny_truthy_bool ?_
  cases c with
  | true => exact hb pins s1 σ H1 Q I1 q1
  | false => exact ⟨.bl false, H1, I1, rfl, q1⟩
theorem pe_not (ha : PE X a ta) : PE X (.UnaryOp .Not a pos) (tNotV ta) := by
  refine .mk fun pins s σ H Q I h => ?_
  refine UnaryOp_ (thn (ha pins s σ H _ I h) fun v s1 ⟨x, H1, I1, r1, q1⟩ => ?_)
  obtain ⟨c, rfl, q1⟩ := q1
  cases r1
  exact not_of (wpAny_truthy_bool ⟨.bl (!c), H1, I1, rfl, q1⟩)
/-- a if t else b -/
def tIf (t : TT) (ta tb : TE) : TE := fun σ H Q => t σ H fun c H1 => if c = true then ta σ H1 Q else tb σ H1 Q
theorem pe_ifExp {c : Expr} (hc : PT X c tA) (ha : PE X a ta) (hb : PE X b tb) : PE X (.IfExp c a b pos) (tIf tA ta tb) := by
  refine .mk fun pins s σ H Q I h => ?_
  refine wpAny_IfExp (thn (hc pins s σ H _ I h) fun d s1 ⟨H1, I1, q1⟩ => ?_)
  cases d with
  | true => exact ha pins s1 σ H1 Q I1 q1
  | false => exact hb pins s1 σ H1 Q I1 q1
end
end L2

namespace L2
open PySem PySem.Spec PyProof.Rows

/-! ### a list, a tuple that is read: tracked, frozen, or an object of the module -/
def SqL (K : PySem.W.Frag) (H : Hp) (a : Addr) (xs : List V) : Prop :=
  Rd H a (.lst xs) ∨
    ∃ (o : Obj) (its : Array Value) (n : Nat), K.lookup a = some o ∧ o.cls = .type "list" ∧ o.dict = none ∧ o.data = .seq its n ∧ its.size ≤ sizeLine ∧ Vals xs its.toList
def SqT (K : PySem.W.Frag) (H : Hp) (a : Addr) (xs : List V) : Prop :=
  Rd H a (.tup xs) ∨
    ∃ (o : Obj) (its : Array Value) (n : Nat), K.lookup a = some o ∧ o.cls = .type "tuple" ∧ o.data = .seq its n ∧ its.size ≤ sizeLine ∧ Vals xs its.toList
def absV : Value → Option V
  | .none => some .non
  | .bool b => some (.bl b)
  | .int i _ => some (.int i)
  | .str x _ => some (.str x)
  | .bytes b _ => some (.byt b)
  | .float b _ => some (.flt b)
  | .ref a => some (.ref a)
  | .type n => some (.ty n)
  | _ => none
theorem RelV.abs {x : V} {u : Value} (r : RelV x u) : absV u = some x := by
  cases x with
  | non => cases r; rfl
  | bl _ => cases r; rfl
  | int _ => obtain ⟨t, rfl⟩ := r; rfl
  | str _ => obtain ⟨t, rfl⟩ := r; rfl
  | byt _ => obtain ⟨t, rfl⟩ := r; rfl
  | flt _ => obtain ⟨t, rfl⟩ := r; rfl
  | ref _ => cases r; rfl
  | ty _ => cases r; rfl
theorem RelV.inj {x y : V} {u : Value} (r : RelV x u) (q : RelV y u) : x = y := Option.some.inj (r.abs.symm.trans q.abs)
theorem Vals.inj : ∀ {xs ys : List V} {us : List Value}, Vals xs us → Vals ys us → xs = ys
  | _, _, _, .nil, .nil => rfl
  | _, _, _, .cons r t, .cons r' t' => by rw [r.inj r', Vals.inj t t']
section
variable {X : Cx} {pins : List (Addr × Obj)} {σ : St} {H : Hp} {s : Shared} {a : Addr} {xs ys : List V}
theorem SqL.of {K : PySem.W.Frag} (h : H a = some (.lst xs)) : SqL K H a xs := .inl (.inl h)
theorem SqT.of {K : PySem.W.Frag} (h : H a = some (.tup xs)) : SqT K H a xs := .inl (.inl h)
theorem Inv.list (I : Inv X pins σ H s) (h : SqL X.K H a xs) : ∃ its : List Value, Vals xs its ∧ PlainL s.heap a its.toArray ∧ xs.length ≤ sizeLine := by
  rcases h with h | ⟨o, its, n, hk, hc, hd, hs, hz, r⟩
  · obtain ⟨z, its, n, r, e⟩ := h.ok I.hok
    exact ⟨its, r, ⟨_, n, e, rfl, rfl, rfl⟩, z⟩
  · refine ⟨its.toList, r, ⟨o, n, I.kIn a o hk, hc, hd, by simpa using hs⟩, ?_⟩
    have e := r.length
    simp only [Array.length_toList] at e
    omega
theorem Inv.tuple (I : Inv X pins σ H s) (h : SqT X.K H a xs) : ∃ its : List Value, Vals xs its ∧ IsTup s.heap a its.toArray ∧ xs.length ≤ sizeLine := by
  rcases h with h | ⟨o, its, n, hk, hc, hs, hz, r⟩
  · obtain ⟨z, its, r, p⟩ := h.ok I.hok
    exact ⟨its, r, p, z⟩
  · refine ⟨its.toList, r, ⟨o, I.kIn a o hk, hc, n, by simpa using hs⟩, ?_⟩
    have e := r.length
    simp only [Array.length_toList] at e
    omega
theorem Inv.list_inj (I : Inv X pins σ H s) (h : SqL X.K H a xs) (h' : SqL X.K H a ys) : xs = ys := by
  obtain ⟨its, r, ⟨o, n, e, _, _, d⟩, _⟩ := I.list h
  obtain ⟨its', r', ⟨o', n', e', _, _, d'⟩, _⟩ := I.list h'
  rw [e] at e'; cases e'
  rw [d] at d'
  injection d' with d1 _
  have : its = its' := by simpa using congrArg Array.toList d1
  subst this
  exact r.inj r'
theorem Inv.tuple_inj (I : Inv X pins σ H s) (h : SqT X.K H a xs) (h' : SqT X.K H a ys) : xs = ys := by
  obtain ⟨its, r, ⟨o, e, _, n, d⟩, _⟩ := I.tuple h
  obtain ⟨its', r', ⟨o', e', _, n', d'⟩, _⟩ := I.tuple h'
  rw [e] at e'; cases e'
  rw [d] at d'
  injection d' with d1 _
  have : its = its' := by simpa using congrArg Array.toList d1
  subst this
  exact r.inj r'
end

/-! ### another wish about exceptions -/
abbrev Cx.wish (X : Cx) (E : Value → Shared → Prop) : Cx := { X with xe := E }
/-- no exception leaves -/
abbrev Cx.nox (X : Cx) : Cx := X.wish fun _ _ => False
theorem Cx.Ok.wish {X : Cx} (ok : X.Ok) (E : Value → Shared → Prop) : (X.wish E).Ok :=
  ⟨ok.mod, ok.kind, ok.glob, ok.blt, ok.above, ok.inj, ok.has, ok.cab, ok.hd, ok.frames, ok.stk, ok.exf, ok.bs, ok.bsz, ok.noex, ok.exfs, ok.funs, ok.frf⟩
theorem Cx.Ok.unwish {X : Cx} {E : Value → Shared → Prop} (ok : (X.wish E).Ok) : X.Ok :=
  ⟨ok.mod, ok.kind, ok.glob, ok.blt, ok.above, ok.inj, ok.has, ok.cab, ok.hd, ok.frames, ok.stk, ok.exf, ok.bs, ok.bsz, ok.noex, ok.exfs, ok.funs, ok.frf⟩
section
variable {X : Cx} {pins : List (Addr × Obj)} {σ : St} {H : Hp} {s : Shared} {E : Value → Shared → Prop}
theorem Inv.wish (I : Inv X pins σ H s) (E : Value → Shared → Prop) : Inv (X.wish E) pins σ H s := ⟨I.ok.wish E, I.os, I.bare, I.base, I.loc, I.cell, I.free, I.freeC, I.pin, I.hok, I.len⟩
theorem Inv.unwish (I : Inv (X.wish E) pins σ H s) : Inv X pins σ H s := ⟨I.ok.unwish, I.os, I.bare, I.base, I.loc, I.cell, I.free, I.freeC, I.pin, I.hok, I.len⟩
theorem SP.unwish {D : Ends} {f : Flow} {s' : Shared} (h : SP (X.wish E) pins D f s') : SP X pins D f s' := by
  cases f with
  | next => obtain ⟨σ', H', I, q⟩ := h; exact ⟨σ', H', I.unwish, q⟩
  | brk => obtain ⟨σ', H', I, q⟩ := h; exact ⟨σ', H', I.unwish, q⟩
  | cont => obtain ⟨σ', H', I, q⟩ := h; exact ⟨σ', H', I.unwish, q⟩
  | ret u => obtain ⟨v, σ', H', I, r, q⟩ := h; exact ⟨v, σ', H', I.unwish, r, q⟩
theorem PE.nox {e : Expr} {t : TE} (h : PE X.nox e t) : PE X e t := .mk fun pins s σ H Q I hw =>
  wpAny_mono (h pins s σ H Q (I.wish _) hw) (fun _ _ ⟨v, H', I', r, q⟩ => ⟨v, H', I'.unwish, r, q⟩) fun _ _ z => False.elim z
theorem PT.nox {e : Expr} {t : TT} (h : PT X.nox e t) : PT X e t := .mk fun pins s σ H Q I hw =>
  wpAny_mono (h pins s σ H Q (I.wish _) hw) (fun _ _ ⟨H', I', q⟩ => ⟨H', I'.unwish, q⟩) fun _ _ z => False.elim z
theorem PSs.nox {st : List Stmt} {t : TS} (h : PSs X.nox st t) : PSs X st t := .mk fun pins s σ H D I hw =>
  wpAny_mono (h pins s σ H D (I.wish _) hw) (fun _ _ q => q.unwish) fun _ _ z => False.elim z
end

/-! ### blocks and small statements -/
section
variable {X : Cx} {st : Stmt} {rest : List Stmt} {t u : TS} {e : Expr} {te : TE} {pos : Pos}
def tNext : TS := fun D σ H => D.nx σ H
def tSeq (t u : TS) : TS := fun D σ H => t { D with nx := u D } σ H
theorem pss_nil : PSs X [] tNext := .mk fun _ _ σ H _ I h => wpAny_execs_nil ⟨σ, H, I, h⟩
theorem pss_cons (h1 : PS X st t) (h2 : PSs X rest u) : PSs X (st :: rest) (tSeq t u) := by
  refine .mk fun pins s σ H D I h => ?_
  refine wpAny_execs_cons (thn (h1 pins s σ H { D with nx := u D } I h) fun f s1 q => ?_)
  cases f with
  | next =>
    obtain ⟨σ', H', I', q⟩ := q
    exact h2 pins s1 σ' H' D I' q
  | ret v => exact q
  | brk => exact q
  | cont => exact q
theorem pss_one (h1 : PS X st t) : PSs X [st] t := by
  refine .mk fun pins s σ H D I h => ?_
  refine wpAny_execs_cons (thn (h1 pins s σ H D I h) fun f s1 q => ?_)
  cases f with
  | next => exact wpAny_execs_nil q
  | ret v => exact q
  | brk => exact q
  | cont => exact q
/-- in a def's body nothing is shown -/
theorem Inv.quiet {pins : List (Addr × Obj)} {σ : St} {H : Hp} {s : Shared} (I : Inv X pins σ H s) : interactive X.env = false := by simp [interactive, I.ok.kind]
/-- an expression whose value is dropped -/
def tDrop (te : TE) : TS := fun D σ H => te σ H fun _ H1 => D.nx σ H1
theorem ps_expr (he : PE X e te) (hs : swapsWith e none pos.line X.env = pure false := by rfl) : PS X (.Expr e pos) (tDrop te) := by
  refine .mk fun pins s σ H D I h => ?_
  exact wpAny_Expr_any (thn (he pins s σ H _ I h) fun v s1 ⟨x, H1, I1, r1, q1⟩ => ⟨σ, H1, I1, q1⟩) I.quiet hs
def tRet (te : TE) : TS := fun D σ H => te σ H D.rt
theorem ps_ret (he : PE X e te) : PS X (.Return (some e) pos) (tRet te) := by
  refine .mk fun pins s σ H D I h => ?_
  exact wpAny_Return_some (thn (he pins s σ H _ I h) fun v s1 ⟨x, H1, I1, r1, q1⟩ => ⟨x, σ, H1, I1, r1, q1⟩)
def tRetN : TS := fun D _ H => D.rt .non H
def tIfS (c : TT) (t u : TS) : TS := fun D σ H => c σ H fun b H1 => if b = true then t D σ H1 else u D σ H1
theorem ps_if {c : Expr} {a b : List Stmt} {tc : TT} (hc : PT X c tc) (ha : PSs X a t) (hb : PSs X b u) : PS X (.If c a b pos) (tIfS tc t u) := by
  refine .mk fun pins s σ H D I h => ?_
  refine wpAny_If (thn (hc pins s σ H _ I h) fun d s1 ⟨H1, I1, q1⟩ => ?_)
  cases d with
  | true => exact ha pins s1 σ H1 D I1 q1
  | false => exact hb pins s1 σ H1 D I1 q1
/-- code that the proof never comes to -/
def tNever : TS := fun _ _ _ => False
theorem ps_never : PS X st tNever := .mk fun _ _ _ _ _ _ h => h.elim
end

/-! ### targets -/
abbrev TG := V → St → Hp → (St → Hp → Prop) → Prop
abbrev TGs := List V → St → Hp → (St → Hp → Prop) → Prop
def PG (X : Cx) (target : Expr) (t : TG) : Prop :=
  ∀ (pins : List (Addr × Obj)) (s : Shared) (σ : St) (H : Hp) (v : V) (u : Value) (Q : St → Hp → Prop), Inv X pins σ H s → RelV v u → t v σ H Q →
    wpAny (model X.prog X.w) X.A (assign target X.env u) (fun _ s' => ∃ σ' H', Inv X pins σ' H' s' ∧ Q σ' H') X.xe s
/-- several targets, one after another -/
def PGs (X : Cx) (ts : List Expr) (t : TGs) : Prop :=
  ∀ (pins : List (Addr × Obj)) (s : Shared) (σ : St) (H : Hp) (vs : List V) (us : List Value) (Q : St → Hp → Prop), Inv X pins σ H s → Vals vs us → t vs σ H Q →
    wpAny (model X.prog X.w) X.A (assignInOrder ((assignEach ts X.env).map (·.2)) us) (fun _ s' => ∃ σ' H', Inv X pins σ' H' s' ∧ Q σ' H') X.xe s
/-- o[i] = v, by values -/
abbrev TSet := V → V → V → Hp → (Hp → Prop) → Prop
section
variable {X : Cx} {pos : Pos}
def gName (i : Nat) : TG := fun v σ H Q => Q (σ.set i (some v)) H
theorem pg_name {i : Nat} {x : Str} (hN : X.N.Nodup) (hi : X.N[i]? = some x) (hx : Loc X.env.scope x) (hf : X.fn x = true ∨ X.env.scope.names.lookup x = some .local := by first | exact .inl rfl | exact .inr rfl | assumption) : PG X (.Name x pos) (gName i) := by
  intro pins s σ H v u Q I r h
  exact wpAny_assign_Name (store_ok I hN hi hx r (fun s' I' => ⟨_, H, I', h⟩) hf)
def gNil : TGs := fun vs σ H Q => vs = [] ∧ Q σ H
def gCons (t : TG) (u : TGs) : TGs := fun vs σ H Q => ∃ v r, vs = v :: r ∧ t v σ H fun σ' H' => u r σ' H' Q
theorem pgs_nil : PGs X [] gNil := by
  intro pins s σ H vs us Q I r h
  obtain ⟨e, h⟩ := h
  subst e
  cases r
  exact assignInOrder_nil ⟨σ, H, I, h⟩
theorem pgs_cons {e : Expr} {es : List Expr} {t : TG} {u : TGs} (h1 : PG X e t) (h2 : PGs X es u)
    (hs : (assignEach (e :: es) X.env).map (·.2) = assign e X.env :: (assignEach es X.env).map (·.2) := by rfl) : PGs X (e :: es) (gCons t u) := by
  intro pins s σ H vs us Q I r h
  obtain ⟨v, vr, e1, h⟩ := h
  subst e1
  cases r with
  | cons r rr =>
    rw [hs]
    refine assignInOrder_cons (thn (h1 pins s σ H _ _ _ I r h) fun _ s1 ⟨σ1, H1, I1, q1⟩ => ?_)
    exact h2 pins s1 σ1 H1 _ _ Q I1 rr q1
/-- (a, b, ..) = a tuple of that length -/
def gTup (K : PySem.W.Frag) (n : Nat) (t : TGs) : TG := fun v σ H Q => ∃ a xs, v = .ref a ∧ SqT K H a xs ∧ xs.length = n ∧ t xs σ H Q
theorem pg_tup {es : List Expr} {k : Nat} {t : TGs} {n : Nat} (hc : X.calm = true) (h : PGs X es t)
    (hn : (assignEach es X.env).length = n := by rfl) (hst : (assignEach es X.env).findIdx? (·.1) = none := by rfl) : PG X (.Tuple es k pos) (gTup X.K n t) := by
  intro pins s σ H v u Q I r hw
  obtain ⟨a, xs, e1, hq, hl, hw⟩ := hw
  subst e1
  cases r
  obtain ⟨its, rv, ht, hz⟩ := I.tuple hq
  refine assign_Tuple_tuple (I.ok.hd hc) ht (by simp [hn, ← hl, rv.length]) hst fun h' hx => ?_
  have I1 : Inv X pins σ H { s with heap := h' } := I.kept (t' := s.toks) fun b o e => hx b o (Nat.ne_of_lt (Heap.lt_size e)) e
  exact h pins _ σ H xs _ Q I1 (by simpa using rv) hw
/-- o[i] = .. -/
def gSub (to ti : TE) (t : TSet) : TG := fun v σ H Q => to σ H fun o H1 => ti σ H1 fun i H2 => t o i v H2 fun H3 => Q σ H3
/-- target = value -/
def tAsg (te : TE) (g : TG) : TS := fun D σ H => te σ H fun x H1 => g x σ H1 D.nx
/-- name = value -/
theorem ps_set {i : Nat} {x : Str} {e : Expr} {te : TE} {pos' : Pos} (hN : X.N.Nodup) (hi : X.N[i]? = some x) (hx : Loc X.env.scope x) (he : PE X e te) (hs : swapsWith e (some (.Name x pos')) pos.line X.env = pure false := by rfl) (hf : X.fn x = true ∨ X.env.scope.names.lookup x = some .local := by first | exact .inl rfl | exact .inr rfl | assumption) :
    PS X (.Assign [.Name x pos'] e pos) (tAsg te (gName i)) := by
  refine .mk fun pins s σ H D I h => ?_
  refine wpAny_Assign_Name (thn (he pins s σ H _ I h) fun v s1 ⟨y, H1, I1, r1, q1⟩ => ?_) hs
  exact store_ok I1 hN hi hx r1 (fun s2 I2 => ⟨_, H1, I2, q1⟩) hf
end

/-! ### while -/
section
variable {X : Cx} {pos : Pos}
/-- the invariant W with its measure -/
def tWhile (c : TT) (tb : TS) : TS := fun D σ H => ∃ W : Nat → St → Hp → Prop, (∃ m, W m σ H) ∧ ∀ m σ H, W m σ H →
  c σ H fun b H1 => if b = true then ∃ N : St → Hp → Prop, (∀ σ' H', N σ' H' → ∃ m', m' < m ∧ W m' σ' H') ∧ tb { D with nx := N, ct := N, bk := D.nx } σ H1 else D.nx σ H1
theorem ps_while {c : Expr} {body : List Stmt} {tc : TT} {tb : TS} (hp : PassesOwn (model X.prog X.w) X.A X.env X.xe) (hc : PT X c tc) (hb : PSs X body tb) : PS X (.While c body [] pos) (tWhile tc tb) := by
  refine .mk fun pins s σ H D I h => ?_
  obtain ⟨W, ⟨m0, w0⟩, turn⟩ := h
  refine wpAny_While (codeAny_whileLoop (fun n s' => ∃ σ' H', Inv X pins σ' H' s' ∧ W n σ' H') ?_ m0 ⟨σ, H, I, w0⟩)
  rintro n s1 ⟨σ1, H1, I1, w1⟩
  refine wpAny_passesOwn hp (thn (hc pins s1 σ1 H1 _ I1 (turn n σ1 H1 w1)) fun b s2 ⟨H2, I2, q2⟩ => ?_)
  cases b with
  | true =>
    obtain ⟨N, hN, q2⟩ := q2
    rw [if_pos rfl]
    refine wpAny_passesOwn hp (thn (hb pins s2 σ1 H2 _ I2 q2) fun f s3 q3 => ?_)
    cases f with
    | next =>
      obtain ⟨σ3, H3, I3, n3⟩ := q3
      obtain ⟨m', hm, w3⟩ := hN σ3 H3 n3
      exact ⟨m', hm, σ3, H3, I3, w3⟩
    | cont =>
      obtain ⟨σ3, H3, I3, n3⟩ := q3
      obtain ⟨m', hm, w3⟩ := hN σ3 H3 n3
      exact ⟨m', hm, σ3, H3, I3, w3⟩
    | brk => exact q3
    | ret v => exact q3
  | false =>
    rw [if_neg Bool.false_ne_true]
    exact wpAny_execs_nil ⟨σ1, H2, I2, q2⟩
end

/-! ### what a loop or a comprehension walks -/
/-- at turn i: it yields x (the heap may grow), or it stops -/
structure It where
  go : Nat → Hp → Prop
  yld : Nat → Hp → V → Hp → Prop
  stop : Nat → Hp → Prop
/-- the iterator's own objects may turn: they are not the frame's, not pinned, younger than the entry (or a comprehension's own) -/
def FpOk (X : Cx) (pins : List (Addr × Obj)) (H : Hp) (b : Addr) : Prop :=
  H b = none ∧ b ≠ X.env.locals ∧ b ∉ X.fs ∧ (b ∈ X.ex ∨ X.s₀.heap.objs.size ≤ b) ∧ (∀ x c, X.env.cells.lookup x = some c → c ≠ b) ∧ ∀ p ∈ X.pn ++ pins, p.1 ≠ b
theorem Inv.fpOk {X : Cx} {pins : List (Addr × Obj)} {σ : St} {H H' : Hp} {s : Shared} {b : Addr} (I : Inv X pins σ H s) (hb : s.heap.objs.size ≤ b) (hn : H' b = none) : FpOk X pins H' b := by
  refine ⟨hn, Nat.ne_of_gt (Nat.lt_of_lt_of_le I.lt hb), I.nofs hb, .inr (Nat.le_trans I.sz hb), fun x c e z => ?_, fun p hp z => ?_⟩
  · obtain ⟨v, q⟩ := I.cell x c e
    exact absurd (Nat.lt_of_lt_of_le q.lt (by rw [z]; exact hb)) (Nat.lt_irrefl _)
  · exact absurd (Nat.lt_of_lt_of_le (Heap.lt_size (I.pin p hp).1) (by rw [z]; exact hb)) (Nat.lt_irrefl _)
structure Turn (P : Program) (w : World) (K : PySem.W.Frag) (tg : Expr) (J : It) (fp : List Addr) (it : Addr) (tn : Nat → Heap → Prop) : Prop where
  mem : it ∈ fp
  obj : ∀ i h, tn i h → ∀ b ∈ fp, ∃ o, h.get? b = some o ∧ ∀ v, o.data ≠ .cell v
  keep : ∀ i h h', tn i h → (∀ b ∈ fp, ∀ o, h.get? b = some o → h'.get? b = some o) → tn i h'
  item : ∀ (X : Cx), X.prog = P → X.w = w → X.K = K → X.calm = true → ∀ (i : Nat) (pins : List (Addr × Obj)) (s : Shared) (σ : St) (H : Hp) (E : Value → Shared → Prop), Inv X pins σ H s → (∀ b ∈ fp, FpOk X pins H b) → tn i s.heap → J.go i H →
    wpAny (model P w) X.A (pyNext (.ref it)) (fun r s1 => ∃ u, r = some u ∧
      wpAny (model P w) X.A (letOwnedTupleGo tg (.ref it) u) (fun _ s2 => ∃ x H', Inv X pins σ H' s2 ∧ RelV x u ∧ J.yld i H x H' ∧ tn (i + 1) s2.heap ∧ ∀ b ∈ fp, H' b = none) E s1) E s
  done : ∀ (X : Cx), X.prog = P → X.w = w → X.K = K → X.calm = true → ∀ (i : Nat) (pins : List (Addr × Obj)) (s : Shared) (σ : St) (H : Hp) (E : Value → Shared → Prop), Inv X pins σ H s → (∀ b ∈ fp, FpOk X pins H b) → tn i s.heap → J.stop i H →
    wpAny (model P w) X.A (pyNext (.ref it)) (fun r s1 => r = none ∧ Inv X pins σ H s1) E s
  self : ∀ (A : Around) (i : Nat) (s : Shared) (Q : Value → Shared → Prop) (E : Value → Shared → Prop), tn i s.heap → Q (.ref it) s → wpAny (model P w) A (pyIter (.ref it)) Q E s
abbrev TI := St → Hp → (It → Hp → Prop) → Prop
/-- an iterator has come -/
def PIE (X : Cx) (pins : List (Addr × Obj)) (σ : St) (tg : Expr) (R : It → Hp → Prop) (itv : Value) (s2 : Shared) : Prop :=
  ∃ (it : Addr) (fp : List Addr) (tn : Nat → Heap → Prop) (J : It) (H' : Hp), itv = .ref it ∧ Inv X pins σ H' s2 ∧ Turn X.prog X.w X.K tg J fp it tn ∧ tn 0 s2.heap ∧ (∀ b ∈ fp, FpOk X pins H' b) ∧ R J H'
def PI (X : Cx) (tg iter : Expr) (wi : TI) : Prop :=
  ∀ (pins : List (Addr × Obj)) (s : Shared) (σ : St) (H : Hp) (R : It → Hp → Prop), Inv X pins σ H s → wi σ H R →
    wpAny (model X.prog X.w) X.A (eval iter X.env) (fun v s1 => wpAny (model X.prog X.w) X.A (pyIter v) (PIE X pins σ tg R) X.xe s1) X.xe s

/-- the step ahead of the store is nothing for an iterator that keeps no tuple -/
theorem go_of {M : Model} {A : Around} {E : Value → Shared → Prop} {s : Shared} {tg : Expr} {it : Addr} {u : Value} {o : Obj} {n : String} {vs : Array Value} {Q : Unit → Shared → Prop} (ho : s.heap.get? it = some o) (hc : o.cls = .type n) (hd : o.data = .fields vs)
    (hn : ["enumerate", "zip", "dict_itemiterator", "dict_reverseitemiterator", "odict_iterator", "itertools.zip_longest", "itertools.pairwise"].contains n = false) (hQ : Q () s) : wpAny M A (letOwnedTupleGo tg (.ref it) u) Q E s := by
  unfold letOwnedTupleGo
  cases tg <;> first
    | exact wpAny_pure hQ
    | (cases u <;> first
        | exact wpAny_pure hQ
        | (refine wpAny_bind (wpAny_load ho ?_)
           rw [hc, hd]
           show wpAny M A (if (["enumerate", "zip", "dict_itemiterator", "dict_reverseitemiterator", "odict_iterator", "itertools.zip_longest", "itertools.pairwise"].contains n && vs[0]? == some (rawInt _)) = true then _ else _) Q E s
           rw [if_neg (by intro h; rw [hn, Bool.false_and] at h; cases h)]
           exact wpAny_pure hQ))

/-- the list at a, as it stands at each turn (a loop may append to it) -/
def Itl (K : PySem.W.Frag) (a : Addr) : It :=
  ⟨fun i H => ∃ xs x, SqL K H a xs ∧ xs[i]? = some x, fun i H x H' => H' = H ∧ ∀ xs, SqL K H a xs → xs[i]? = some x, fun i H => ∃ xs, SqL K H a xs ∧ xs.length ≤ i⟩
def Itt (K : PySem.W.Frag) (a : Addr) : It :=
  ⟨fun i H => ∃ xs x, SqT K H a xs ∧ xs[i]? = some x, fun i H x H' => H' = H ∧ ∀ xs, SqT K H a xs → xs[i]? = some x, fun i H => ∃ xs, SqT K H a xs ∧ xs.length ≤ i⟩
/-- lo, lo + 1, .. (n of them) -/
def Itr (lo : Int) (n : Nat) : It := ⟨fun i _ => i < n, fun i H x H' => H' = H ∧ x = .int (lo + i), fun i _ => n ≤ i⟩
theorem turn_list {P : Program} {w : World} {K : PySem.W.Frag} {tg : Expr} (a it : Addr) : Turn P w K tg (Itl K a) [it] it (fun i h => h.IsListIter it a i) where
  mem := by simp
  obj := fun i h st b hb => by
    have e : b = it := by simpa using hb
    subst e
    obtain ⟨o, e, c, d⟩ := st
    exact ⟨o, e, fun v z => by rw [d] at z; cases z⟩
  keep := fun i h h' st k => st.at fun o e => k it (by simp) o e
  item := by
    intro X hP hw hK hc i pins s σ H E I hf st hg
    subst hP hw hK
    obtain ⟨xs, x, hq, hx⟩ := hg
    obtain ⟨its, rv, p, hz⟩ := I.list hq
    obtain ⟨u, hu, ru⟩ := rv.get hx
    obtain ⟨f0, f1, f2, f3, f4, f5⟩ := hf it (by simp)
    refine wpAny_pyNext_list_item st p.isList (x := u) (by simpa using hu) fun h' st' sb => ?_
    have I1 : Inv X pins σ H { s with heap := h' } := I.turned (t' := s.toks) (fun b o hb e => (sb.2 b hb).trans e) f0 f1 f3 f4 f5
    obtain ⟨o, e, c, d⟩ := id st'
    exact ⟨u, rfl, go_of (s := { s with heap := h' }) e c d (by decide) ⟨x, H, I1, ru, ⟨rfl, fun ys hy => by rw [I.list_inj hy hq]; exact hx⟩, st', fun b hb => (hf b hb).1⟩⟩
  done := by
    intro X hP hw hK hc i pins s σ H E I hf st hg
    subst hP hw hK
    obtain ⟨xs, hq, hx⟩ := hg
    obtain ⟨its, rv, p, hz⟩ := I.list hq
    obtain ⟨f0, f1, f2, f3, f4, f5⟩ := hf it (by simp)
    have hl := rv.length
    exact wpAny_pyNext_list_end (I.ok.hd hc) st p.isList (by simp; omega) fun h' eb => ⟨rfl, I.turned (t' := s.toks) (fun b o hb e => eb b o hb e) f0 f1 f3 f4 f5⟩
  self := fun _ _ _ _ _ st h => wpAny_pyIter_listiter st h
theorem turn_tuple {P : Program} {w : World} {K : PySem.W.Frag} {tg : Expr} (a it : Addr) : Turn P w K tg (Itt K a) [it] it (fun i h => h.IsTupleIter it a i) where
  mem := by simp
  obj := fun i h st b hb => by
    have e : b = it := by simpa using hb
    subst e
    obtain ⟨o, e, c, d⟩ := st
    exact ⟨o, e, fun v z => by rw [d] at z; cases z⟩
  keep := fun i h h' st k => st.at fun o e => k it (by simp) o e
  item := by
    intro X hP hw hK hc i pins s σ H E I hf st hg
    subst hP hw hK
    obtain ⟨xs, x, hq, hx⟩ := hg
    obtain ⟨its, rv, p, hz⟩ := I.tuple hq
    obtain ⟨u, hu, ru⟩ := rv.get hx
    obtain ⟨f0, f1, f2, f3, f4, f5⟩ := hf it (by simp)
    refine wpAny_pyNext_tuple_item st (show s.heap.IsTuple a its.toArray from p) (x := u) (by simpa using hu) fun h' st' sb => ?_
    have I1 : Inv X pins σ H { s with heap := h' } := I.turned (t' := s.toks) (fun b o hb e => (sb.2 b hb).trans e) f0 f1 f3 f4 f5
    obtain ⟨o, e, c, d⟩ := id st'
    exact ⟨u, rfl, go_of (s := { s with heap := h' }) e c d (by decide) ⟨x, H, I1, ru, ⟨rfl, fun ys hy => by rw [I.tuple_inj hy hq]; exact hx⟩, st', fun b hb => (hf b hb).1⟩⟩
  done := by
    intro X hP hw hK hc i pins s σ H E I hf st hg
    subst hP hw hK
    obtain ⟨xs, hq, hx⟩ := hg
    obtain ⟨its, rv, p, hz⟩ := I.tuple hq
    obtain ⟨f0, f1, f2, f3, f4, f5⟩ := hf it (by simp)
    have hl := rv.length
    exact wpAny_pyNext_tuple_end (I.ok.hd hc) st (show s.heap.IsTuple a its.toArray from p) (by simp; omega) fun h' eb => ⟨rfl, I.turned (t' := s.toks) (fun b o hb e => eb b o hb e) f0 f1 f3 f4 f5⟩
  self := fun _ _ _ _ _ st h => wpAny_pyIter_tupleiter st h
theorem turn_range {P : Program} {w : World} {K : PySem.W.Frag} {tg : Expr} (it : Addr) (lo : Int) (n : Nat) : Turn P w K tg (Itr lo n) [it] it (fun i h => IsRangeIter h it (lo + (i : Nat) * 1) ((n : Int) - (i : Nat)) 1) where
  mem := by simp
  obj := fun i h st b hb => by
    have e : b = it := by simpa using hb
    subst e
    exact ⟨_, st, fun v z => by
      have z' : Data.fields _ = Data.cell v := z
      cases z'⟩
  keep := fun i h h' st k => k it (by simp) _ st
  item := by
    intro X hP hw hK hc i pins s σ H E I hf st hg
    subst hP hw hK
    obtain ⟨f0, f1, f2, f3, f4, f5⟩ := hf it (by simp)
    have W := Walks.range (prog := X.prog) (w := X.w) (I.ok.hd hc) it lo 1 n
    refine W.item i s _ _ hg st fun v h' tk hv st' kk => ?_
    obtain ⟨t, rfl⟩ := hv
    have I1 : Inv X pins σ H { s with heap := h', toks := tk } := I.turned (fun b o hb e => kk b o (by simpa using hb) e) f0 f1 f3 f4 f5
    refine ⟨_, rfl, go_of (s := { s with heap := h', toks := tk }) (n := "range_iterator") st' rfl rfl (by decide) ⟨.int (lo + i), H, I1, ⟨t, ?_⟩, ⟨rfl, rfl⟩, st', fun b hb => (hf b hb).1⟩⟩
    rw [Int.mul_one]
  done := by
    intro X hP hw hK hc i pins s σ H E I hf st hg
    subst hP hw hK
    obtain ⟨f0, f1, f2, f3, f4, f5⟩ := hf it (by simp)
    exact wpAny_pyNext_range_end (I.ok.hd hc) st (by have : n ≤ i := hg; omega) fun h' eb => ⟨rfl, I.turned (t' := s.toks) (fun b o hb e => eb b o hb e) f0 f1 f3 f4 f5⟩
  self := fun _ _ _ _ _ st h => wpAny_pyIter_rangeiter st h
end L2

namespace L2
open PySem PySem.Spec PyProof.Rows
section
variable {X : Cx} {tg : Expr}
def iList (K : PySem.W.Frag) (tl : TE) : TI := fun σ H R => tl σ H fun x H1 => ∃ a, x = .ref a ∧ (∃ xs, SqL K H1 a xs) ∧ R (Itl K a) H1
def iTup (K : PySem.W.Frag) (tl : TE) : TI := fun σ H R => tl σ H fun x H1 => ∃ a, x = .ref a ∧ (∃ xs, SqT K H1 a xs) ∧ R (Itt K a) H1
theorem pi_list {l : Expr} {tl : TE} (hl : PE X l tl) : PI X tg l (iList X.K tl) := by
  intro pins s σ H R I h
  refine thn (hl pins s σ H _ I h) fun v s1 ⟨x, H1, I1, r1, q1⟩ => ?_
  obtain ⟨a, e, ⟨xs, hq⟩, q⟩ := q1
  subst e
  cases r1
  obtain ⟨its, rv, p, hz⟩ := I1.list hq
  refine wpAny_pyIter_list p.isList ?_
  refine ⟨s1.heap.objs.size, [s1.heap.objs.size], _, _, H1, rfl, I1.kept (t' := s1.toks) fun b o e => Heap.get?_push_of_some _ e, turn_list a _, ⟨_, Heap.get?_push_size _ rfl, rfl, rfl⟩, fun b hb => ?_, q⟩
  have e : b = s1.heap.objs.size := by simpa using hb
  subst e
  exact I1.fpOk (Nat.le_refl _) (I1.hok.fresh (Nat.le_refl _))
theorem pi_tup {l : Expr} {tl : TE} (hl : PE X l tl) : PI X tg l (iTup X.K tl) := by
  intro pins s σ H R I h
  refine thn (hl pins s σ H _ I h) fun v s1 ⟨x, H1, I1, r1, q1⟩ => ?_
  obtain ⟨a, e, ⟨xs, hq⟩, q⟩ := q1
  subst e
  cases r1
  obtain ⟨its, rv, p, hz⟩ := I1.tuple hq
  refine wpAny_pyIter_tuple (show s1.heap.IsTuple a its.toArray from p) ?_
  refine ⟨s1.heap.objs.size, [s1.heap.objs.size], _, _, H1, rfl, I1.kept (t' := s1.toks) fun b o e => Heap.get?_push_of_some _ e, turn_tuple a _, ⟨_, Heap.get?_push_size _ rfl, rfl, rfl⟩, fun b hb => ?_, q⟩
  have e : b = s1.heap.objs.size := by simpa using hb
  subst e
  exact I1.fpOk (Nat.le_refl _) (I1.hok.fresh (Nat.le_refl _))
/-- a range object just made, walked -/
theorem range_it {pins : List (Addr × Obj)} {σ : St} {H : Hp} {s : Shared} {R : It → Hp → Prop} {E : Value → Shared → Prop} {lo hi : Int} {t u v : Tok} {tk : Nat} (I : Inv X pins σ H s) (h1 : -(2 ^ 62) ≤ lo) (h2 : lo < 2 ^ 62) (h3 : -(2 ^ 62) ≤ hi) (h4 : hi < 2 ^ 62)
    (q : R (Itr lo (hi - lo).toNat) H) : wpAny (model X.prog X.w) X.A (pyIter (.ref s.heap.objs.size)) (PIE X pins σ tg R) E { s with heap := s.heap.push { cls := .type "range", data := .fields #[.int lo t, .int hi u, .int 1 v] }, toks := tk } := by
  refine wpAny_pyIter_range (IsRange.new ..) (small_one h1 h2 h3 h4) ?_
  have I1 : Inv X pins σ H { s with heap := s.heap.push { cls := .type "range", data := .fields #[.int lo t, .int hi u, .int 1 v] }, toks := tk } := I.kept fun b o e => Heap.get?_push_of_some _ e
  refine ⟨(s.heap.push { cls := .type "range", data := .fields #[.int lo t, .int hi u, .int 1 v] }).objs.size, [(s.heap.push { cls := .type "range", data := .fields #[.int lo t, .int hi u, .int 1 v] }).objs.size], _, _, H, rfl,
    I1.kept (t' := tk) fun b o e => Heap.get?_push_of_some _ e, turn_range _ lo (hi - lo).toNat, ?_, fun b hb => ?_, q⟩
  · have e1 : lo + ((0 : Nat) : Int) * 1 = lo := by simp
    have e2 : (((hi - lo).toNat : Nat) : Int) - ((0 : Nat) : Int) = Builtin.Range.rangeSize lo hi 1 := by rw [rangeSize_one]; split <;> omega
    show IsRangeIter _ _ (lo + ((0 : Nat) : Int) * 1) ((((hi - lo).toNat : Nat) : Int) - ((0 : Nat) : Int)) 1
    rw [e1, e2]
    exact Heap.get?_push_size _ rfl
  · have e : b = (s.heap.push { cls := .type "range", data := .fields #[.int lo t, .int hi u, .int 1 v] }).objs.size := by simpa using hb
    subst e
    exact I1.fpOk (Nat.le_refl _) (I1.hok.fresh (Nat.le_refl _))
def iRng1 (ta : TA) : TI := fun σ H R => ta σ H fun vs H1 => ∃ j : Int, vs = [.int j] ∧ -(2 ^ 62) ≤ j ∧ j < 2 ^ 62 ∧ R (Itr 0 j.toNat) H1
def iRng2 (ta : TA) : TI := fun σ H R => ta σ H fun vs H1 => ∃ i j : Int, vs = [.int i, .int j] ∧ (-(2 ^ 62) ≤ i ∧ i < 2 ^ 62 ∧ -(2 ^ 62) ≤ j ∧ j < 2 ^ 62) ∧ R (Itr i (j - i).toNat) H1
theorem pi_range1 {a : Expr} {ta : TA} {p pos : Pos} (hg : Gl X "range") (hm : X.mg "range" = none) (ha : PA X [a] ta) (hs : starEach [a] X.env = [(false, eval a X.env)] := by rfl) : PI X tg (.Call (.Name "range" p) [a] [] pos) (iRng1 ta) := by
  intro pins s σ H R I h
  refine Call_ (ld_blt I hg hm boot_range (PyProof.Rows.callWith_type1 (thn (ha pos pins s σ H _ I h) fun us s1 ⟨vs, H1, I1, r1, q1⟩ => ?_) hs rfl))
  obtain ⟨j, e, q1, q2, q⟩ := q1
  subst e
  cases r1 with
  | cons r rr =>
    cases rr
    obtain ⟨t, rfl⟩ := r
    exact call_range_1 (range_it I1 (by omega) (by omega) q1 q2 (by simpa using q))
/-! ### for -/
/-- W: the invariant by the turn and a measure; N: what the body is to reach -/
def tFor (wi : TI) (g : TG) (tb : TS) : TS := fun D σ H => wi σ H fun J H1 => ∃ W : Nat → Nat → St → Hp → Prop, (∃ m, W 0 m σ H1) ∧ ∀ i m σ H, W i m σ H →
  (J.stop i H ∧ D.nx σ H) ∨ (J.go i H ∧ ∃ N : St → Hp → Prop, (∀ σ' H', N σ' H' → ∃ m', m' < m ∧ W (i + 1) m' σ' H') ∧ ∀ x H', J.yld i H x H' → g x σ H' fun σ2 H2 => tb { D with nx := N, ct := N, bk := D.nx } σ2 H2)
/-- the records at fp as they stand -/
def pinsAt (fp : List Addr) (h : Heap) : List (Addr × Obj) := fp.filterMap fun b => (h.get? b).map fun o => (b, o)
theorem mem_pinsAt {fp : List Addr} {h : Heap} {b : Addr} {o : Obj} (hb : b ∈ fp) (e : h.get? b = some o) : (b, o) ∈ pinsAt fp h := List.mem_filterMap.mpr ⟨b, hb, by rw [e]; rfl⟩
theorem of_pinsAt {fp : List Addr} {h : Heap} {p : Addr × Obj} (hp : p ∈ pinsAt fp h) : p.1 ∈ fp ∧ h.get? p.1 = some p.2 := by
  obtain ⟨b, hb, e⟩ := List.mem_filterMap.mp hp
  cases q : h.get? b with
  | none => rw [q] at e; cases e
  | some o =>
    rw [q] at e
    have e' : (b, o) = p := Option.some.inj e
    subst e'
    exact ⟨hb, q⟩
theorem Inv.pinned {pins : List (Addr × Obj)} {σ : St} {H : Hp} {s : Shared} {fp : List Addr} (I : Inv X pins σ H s) (hf : ∀ b ∈ fp, FpOk X pins H b) (ho : ∀ b ∈ fp, ∃ o, s.heap.get? b = some o ∧ ∀ v, o.data ≠ .cell v) : Inv X (pins ++ pinsAt fp s.heap) σ H s :=
  I.pins_of fun p hp => (List.mem_append.mp hp).elim (fun z => I.pin p (List.mem_append_right _ z)) fun z => by
    obtain ⟨hb, e⟩ := of_pinsAt z
    obtain ⟨f0, f1, f2, _⟩ := hf p.1 hb
    obtain ⟨o, e', d⟩ := ho p.1 hb
    rw [e] at e'; cases e'
    exact ⟨e, f0, f1, f2, d⟩
theorem Inv.unpinned {pins pl : List (Addr × Obj)} {σ : St} {H : Hp} {s : Shared} (I : Inv X (pins ++ pl) σ H s) : Inv X pins σ H s := I.pins_of fun p hp => I.pin p (List.mem_append_right _ (List.mem_append_left _ hp))
theorem ps_for {iter : Expr} {body : List Stmt} {wi : TI} {g : TG} {tb : TS} {pos : Pos} (hp : PassesOwn (model X.prog X.w) X.A X.env X.xe) (hc : X.calm = true) (hi : PI X tg iter wi) (hg : PG X tg g) (hb : PSs X body tb)
    (hs : ∀ x, foldedSetIterable iter X.env x = pure x := by intro _; rfl) : PS X (.For tg iter body [] pos) (tFor wi g tb) := by
  refine .mk fun pins s σ H D I h => ?_
  refine wpAny_For (thn (hi pins s σ H _ I h) fun v s1 h1 => thn h1 fun itv s2 h2 => ?_) hs
  obtain ⟨it, fp, tn, J, H2, e, I2, T, st2, f2, W, ⟨m0, w0⟩, turn⟩ := h2
  subst e
  -- what stays true of the iterator's objects through the loop
  have stat : ∀ {H' : Hp}, (∀ b ∈ fp, H' b = none) → ∀ b ∈ fp, FpOk X pins H' b := fun hn b hb => ⟨hn b hb, (f2 b hb).2⟩
  refine codeAny_forLoop_any (fun n s' => ∃ i σ' H', Inv X pins σ' H' s' ∧ tn i s'.heap ∧ (∀ b ∈ fp, H' b = none) ∧ W i n σ' H') ?_ m0 ⟨0, σ, H2, I2, st2, fun b hb => (f2 b hb).1, w0⟩
  rintro n s3 ⟨i, σ3, H3, I3, st3, fr3, w3⟩
  rcases turn i n σ3 H3 w3 with ⟨stop, qn⟩ | ⟨go, N, hN, step⟩
  · refine wpAny_passesOwn hp (thn (T.done X rfl rfl rfl hc i pins s3 σ3 H3 X.xe I3 (stat fr3) st3 stop) fun r s4 ⟨hr, I4⟩ => ?_)
    subst hr
    exact wpAny_execs_nil ⟨σ3, H3, I4, qn⟩
  · refine wpAny_passesOwn hp (thn (T.item X rfl rfl rfl hc i pins s3 σ3 H3 X.xe I3 (stat fr3) st3 go) fun r s4 ⟨u, hr, h4⟩ => ?_)
    subst hr
    refine wpAny_passesOwn hp (thn h4 fun _ s5 ⟨x, H5, I5, r5, y5, st5, fr5⟩ => ?_)
    have I5' := I5.pinned (stat fr5) (T.obj _ _ st5)
    refine wpAny_passesOwn hp (thn (hg _ s5 σ3 H5 x u _ I5' r5 (step x H5 y5)) fun _ s6 ⟨σ6, H6, I6, q6⟩ => ?_)
    refine wpAny_passesOwn hp (thn (hb _ s6 σ6 H6 _ I6 q6) fun f s7 q7 => ?_)
    have again : ∀ {σ7 : St} {H7 : Hp}, Inv X (pins ++ pinsAt fp s5.heap) σ7 H7 s7 → N σ7 H7 → ∃ m, m < n ∧ ∃ i σ' H', Inv X pins σ' H' s7 ∧ tn i s7.heap ∧ (∀ b ∈ fp, H' b = none) ∧ W i m σ' H' := fun {σ7 H7} I7 n7 => by
      obtain ⟨m', hm, w7⟩ := hN σ7 H7 n7
      refine ⟨m', hm, i + 1, σ7, H7, I7.unpinned, T.keep _ _ _ st5 fun b hb o e => (I7.pin (b, o) (List.mem_append_right _ (List.mem_append_right _ (mem_pinsAt hb e)))).1, fun b hb => ?_, w7⟩
      obtain ⟨o, e, d⟩ := T.obj _ _ st5 b hb
      exact (I7.pin (b, o) (List.mem_append_right _ (List.mem_append_right _ (mem_pinsAt hb e)))).2.1
    cases f with
    | next => obtain ⟨σ7, H7, I7, n7⟩ := q7; exact again I7 n7
    | cont => obtain ⟨σ7, H7, I7, n7⟩ := q7; exact again I7 n7
    | brk => obtain ⟨σ7, H7, I7, q7⟩ := q7; exact ⟨σ7, H7, I7.unpinned, q7⟩
    | ret v => obtain ⟨x7, σ7, H7, I7, r7, q7⟩ := q7; exact ⟨x7, σ7, H7, I7.unpinned, r7, q7⟩
end

/-! ### the forms one uses -/
/-- over a list that the body leaves as it is -/
theorem for_list {K : PySem.W.Frag} {a : Addr} {xs : List V} {g : TG} {tb : TS} {D : Ends} {σ : St} {H : Hp} (Pv : Nat → St → Hp → Prop) (h0 : Pv 0 σ H) (hl : ∀ i σ H, i ≤ xs.length → Pv i σ H → SqL K H a xs)
    (hs : ∀ i x σ H, xs[i]? = some x → Pv i σ H → g x σ H fun σ2 H2 => tb { D with nx := Pv (i + 1), ct := Pv (i + 1), bk := D.nx } σ2 H2) (hd : ∀ σ H, Pv xs.length σ H → D.nx σ H) :
    ∃ W : Nat → Nat → St → Hp → Prop, (∃ m, W 0 m σ H) ∧ ∀ i m σ H, W i m σ H →
      ((Itl K a).stop i H ∧ D.nx σ H) ∨ ((Itl K a).go i H ∧ ∃ N : St → Hp → Prop, (∀ σ' H', N σ' H' → ∃ m', m' < m ∧ W (i + 1) m' σ' H') ∧ ∀ x H', (Itl K a).yld i H x H' → g x σ H' fun σ2 H2 => tb { D with nx := N, ct := N, bk := D.nx } σ2 H2) := by
  refine ⟨fun i m σ H => m = xs.length - i ∧ i ≤ xs.length ∧ Pv i σ H, ⟨xs.length, by simp, Nat.zero_le _, h0⟩, ?_⟩
  rintro i m σ H ⟨rfl, hi, p⟩
  have q := hl i σ H hi p
  by_cases hlt : i < xs.length
  · refine .inr ⟨⟨xs, xs[i], q, by simp [hlt]⟩, Pv (i + 1), fun σ' H' p' => ⟨xs.length - (i + 1), by omega, rfl, hlt, p'⟩, fun x H' y => ?_⟩
    obtain ⟨e, y⟩ := y
    subst e
    exact hs i x σ _ (y xs q) p
  · have e : i = xs.length := by omega
    subst e
    exact .inl ⟨⟨xs, q, Nat.le_refl _⟩, hd σ H p⟩
theorem for_range {lo : Int} {n : Nat} {g : TG} {tb : TS} {D : Ends} {σ : St} {H : Hp} (Pv : Nat → St → Hp → Prop) (h0 : Pv 0 σ H)
    (hs : ∀ i σ H, i < n → Pv i σ H → g (.int (lo + i)) σ H fun σ2 H2 => tb { D with nx := Pv (i + 1), ct := Pv (i + 1), bk := D.nx } σ2 H2) (hd : ∀ σ H, Pv n σ H → D.nx σ H) :
    ∃ W : Nat → Nat → St → Hp → Prop, (∃ m, W 0 m σ H) ∧ ∀ i m σ H, W i m σ H →
      ((Itr lo n).stop i H ∧ D.nx σ H) ∨ ((Itr lo n).go i H ∧ ∃ N : St → Hp → Prop, (∀ σ' H', N σ' H' → ∃ m', m' < m ∧ W (i + 1) m' σ' H') ∧ ∀ x H', (Itr lo n).yld i H x H' → g x σ H' fun σ2 H2 => tb { D with nx := N, ct := N, bk := D.nx } σ2 H2) := by
  refine ⟨fun i m σ H => m = n - i ∧ i ≤ n ∧ Pv i σ H, ⟨n, by simp, Nat.zero_le _, h0⟩, ?_⟩
  rintro i m σ H ⟨rfl, hi, p⟩
  by_cases hlt : i < n
  · refine .inr ⟨hlt, Pv (i + 1), fun σ' H' p' => ⟨n - (i + 1), by omega, rfl, hlt, p'⟩, fun x H' y => ?_⟩
    obtain ⟨e, y⟩ := y
    subst e y
    exact hs i σ _ hlt p
  · have e : i = n := by omega
    subst e
    exact .inl ⟨Nat.le_refl _, hd σ H p⟩
end L2

namespace L2
open PySem PySem.Spec PyProof.Rows

abbrev R2 := V → V → Hp → VK → Prop
/-- a two-place operation on values: f is binaryOp op, inplaceOp op or compareOp op -/
def OpR (X : Cx) (f : Value → Value → Sem Value) (r : R2) : Prop :=
  ∀ (pins : List (Addr × Obj)) (s : Shared) (σ : St) (H : Hp) (x y : V) (v u : Value) (Q : VK), Inv X pins σ H s → RelV x v → RelV y u → r x y H Q →
    wpAny (model X.prog X.w) X.A (f v u) (EP X pins σ Q) X.xe s
/-- a one-place operation -/
def UnR (X : Cx) (f : Value → Sem Value) (r : V → Hp → VK → Prop) : Prop :=
  ∀ (pins : List (Addr × Obj)) (s : Shared) (σ : St) (H : Hp) (x : V) (v : Value) (Q : VK), Inv X pins σ H s → RelV x v → r x H Q →
    wpAny (model X.prog X.w) X.A (f v) (EP X pins σ Q) X.xe s
/-- a call of a value that is known (a builtin, a type) with values -/
def CallR (X : Cx) (f : Value) (r : List V → Hp → VK → Prop) : Prop :=
  ∀ (pins : List (Addr × Obj)) (s : Shared) (σ : St) (H : Hp) (xs : List V) (us : List Value) (Q : VK), Inv X pins σ H s → Vals xs us → r xs H Q →
    wpAny (model X.prog X.w) X.A (call f us) (EP X pins σ Q) X.xe s
def tOp (r : R2) (ta tb : TE) : TE := fun σ H Q => ta σ H fun x H1 => tb σ H1 fun y H2 => r x y H2 Q
def tUn (r : V → Hp → VK → Prop) (ta : TE) : TE := fun σ H Q => ta σ H fun x H1 => r x H1 Q
/-- ints in, under C, and a value out -/
def rI (C : Int → Int → Prop) (g : Int → Int → V) : R2 := fun x y H Q => ∃ i j, x = .int i ∧ y = .int j ∧ C i j ∧ Q (g i j) H
def rI0 (g : Int → Int → V) : R2 := fun x y H Q => ∃ i j, x = .int i ∧ y = .int j ∧ Q (g i j) H
def rU (g : Int → V) : V → Hp → VK → Prop := fun x H Q => ∃ i, x = .int i ∧ Q (g i) H

section
variable {X : Cx} {a b c : Expr} {ta tb tc : TE} {pos : Pos}

theorem binT (ha : PE X a ta) (hb : PE X b tb) {pins : List (Addr × Obj)} {s : Shared} {σ : St} {H : Hp} {R : V → V → Hp → Prop} (I : Inv X pins σ H s)
    (h : ta σ H fun x H1 => tb σ H1 fun y H2 => R x y H2) {Q : Value → Shared → Prop} {f : Value → Value → Sem Value}
    (hf : ∀ v u s2 x y H2, Inv X pins σ H2 s2 → RelV x v → RelV y u → R x y H2 → wpAny (model X.prog X.w) X.A (f v u) Q X.xe s2) :
    wpAny (model X.prog X.w) X.A (eval a X.env) (fun v s₁ => wpAny (model X.prog X.w) X.A (eval b X.env) (fun u s₂ => wpAny (model X.prog X.w) X.A (f v u) Q X.xe s₂) X.xe s₁) X.xe s := by
  refine thn (ha pins s σ H _ I h) fun v s1 ⟨x, H1, I1, r1, q1⟩ => ?_
  refine thn (hb pins s1 σ H1 _ I1 q1) fun u s2 ⟨y, H2, I2, r2, q2⟩ => ?_
  exact hf v u s2 x y H2 I2 r1 r2 q2

theorem pe_op {op : Operator} {r : R2} (ho : OpR X (binaryOp op) r) (ha : PE X a ta) (hb : PE X b tb) : PE X (.BinOp a op b pos) (tOp r ta tb) := by
  refine .mk fun pins s σ H Q I h => ?_
  exact wpAny_BinOp (binT ha hb I h fun v u s2 x y H2 I2 rx ry q => ho pins s2 σ H2 x y v u Q I2 rx ry q)
theorem pe_un {op : UnaryOp} {r : V → Hp → VK → Prop} (ho : UnR X (unaryOp op) r) (ha : PE X a ta) : PE X (.UnaryOp op a pos) (tUn r ta) := by
  refine .mk fun pins s σ H Q I h => ?_
  exact UnaryOp_ (thn (ha pins s σ H _ I h) fun v s1 ⟨x, H1, I1, r1, q1⟩ => ho pins s1 σ H1 x v Q I1 r1 q1)
/-! ### ints -/
theorem opI {f : Value → Value → Sem Value} {C : Int → Int → Prop} {g : Int → Int → Int}
    (rule : ∀ (i j : Int) (t u : Tok) (s : Shared) (Q : Value → Shared → Prop) (E : Value → Shared → Prop), C i j → Q (.int (g i j) s.toks) { s with toks := s.toks + 1 } → wpAny (model X.prog X.w) X.A (f (.int i t) (.int j u)) Q E s) :
    OpR X f (rI C fun i j => .int (g i j)) := by
  intro pins s σ H x y v u Q I rx ry h
  obtain ⟨i, j, rfl, rfl, hc, q⟩ := h
  obtain ⟨t, rfl⟩ := rx
  obtain ⟨t', rfl⟩ := ry
  exact rule i j t t' s _ _ hc ⟨.int (g i j), H, I.tok _, ⟨_, rfl⟩, q⟩
theorem opI0 {f : Value → Value → Sem Value} {g : Int → Int → Int}
    (rule : ∀ (i j : Int) (t u : Tok) (s : Shared) (Q : Value → Shared → Prop) (E : Value → Shared → Prop), Q (.int (g i j) s.toks) { s with toks := s.toks + 1 } → wpAny (model X.prog X.w) X.A (f (.int i t) (.int j u)) Q E s) :
    OpR X f (rI0 fun i j => .int (g i j)) := by
  intro pins s σ H x y v u Q I rx ry h
  obtain ⟨i, j, rfl, rfl, q⟩ := h
  obtain ⟨t, rfl⟩ := rx
  obtain ⟨t', rfl⟩ := ry
  exact rule i j t t' s _ _ ⟨.int (g i j), H, I.tok _, ⟨_, rfl⟩, q⟩
theorem opB0 {f : Value → Value → Sem Value} {g : Int → Int → Bool}
    (rule : ∀ (i j : Int) (t u : Tok) (s : Shared) (Q : Value → Shared → Prop) (E : Value → Shared → Prop), Q (.bool (g i j)) s → wpAny (model X.prog X.w) X.A (f (.int i t) (.int j u)) Q E s) :
    OpR X f (rI0 fun i j => .bl (g i j)) := by
  intro pins s σ H x y v u Q I rx ry h
  obtain ⟨i, j, rfl, rfl, q⟩ := h
  obtain ⟨t, rfl⟩ := rx
  obtain ⟨t', rfl⟩ := ry
  exact rule i j t t' s _ _ ⟨.bl (g i j), H, I, rfl, q⟩

def CPow (i j : Int) : Prop := 0 ≤ j ∧ j ≤ 1000000 ∧ i.natAbs < 2 ^ 64
def CMul (i j : Int) : Prop := (-(2 ^ 64) < i ∧ i < 2 ^ 64) ∨ (-(2 ^ 64) < j ∧ j < 2 ^ 64)
theorem CMul.ok {i j : Int} (h : CMul i j) : IntMulOk i j := by
  rcases h with ⟨h1, h2⟩ | ⟨h1, h2⟩
  · exact .of_left (intBits_le_64 h1 h2)
  · exact .of_right (intBits_le_64 h1 h2)
theorem two_pow_nn (k : Nat) : (0 : Int) ≤ 2 ^ k := by
  rw [two_pow_cast]
  exact Int.natCast_nonneg _

theorem op_add : OpR X (binaryOp .Add) (rI0 fun i j => .int (i + j)) := opI0 fun _ _ _ _ _ _ _ q => add_int q
theorem op_sub : OpR X (binaryOp .Sub) (rI0 fun i j => .int (i - j)) := opI0 fun _ _ _ _ _ _ _ q => sub_int q
theorem op_mul : OpR X (binaryOp .Mult) (rI CMul fun i j => .int (i * j)) := opI fun _ _ _ _ _ _ _ hc q => mul_int q hc.ok
/-- % by a positive divisor of any size -/
theorem op_mod : OpR X (binaryOp .Mod) (rI (fun _ j => 0 < j) fun i j => .int (i % j)) := opI fun i j _ _ _ _ _ hc q => by
  have h1 : (0 : Int) < j := hc
  exact mod_int' (by omega) (by rw [Int.fmod_eq_emod_of_nonneg i (by omega)]; exact q)
theorem op_pow : OpR X (binaryOp .Pow) (rI CPow fun i j => .int (i ^ j.toNat)) := opI fun _ _ _ _ _ _ _ hc q => pow_int_small hc.1 hc.2.1 hc.2.2 q
theorem op_shl : OpR X (binaryOp .LShift) (rI CPow fun i j => .int (i * 2 ^ j.toNat)) := opI fun _ _ _ _ _ _ _ hc q => lshift_int_small hc.1 hc.2.1 hc.2.2 q
theorem op_shr : OpR X (binaryOp .RShift) (rI (fun _ j => 0 ≤ j) fun i j => .int (i / 2 ^ j.toNat)) := opI fun i j _ _ _ _ _ hc q =>
  rshift_int hc (by rw [Int.fdiv_eq_ediv_of_nonneg i (two_pow_nn _)]; exact q)
theorem op_and : OpR X (binaryOp .BitAnd) (rI0 fun i j => .int (Builtin.bitAnd i j)) := opI0 fun _ _ _ _ _ _ _ q => and_int q
theorem unI {f : Value → Sem Value} {g : Int → Int}
    (rule : ∀ (i : Int) (t : Tok) (s : Shared) (Q : Value → Shared → Prop) (E : Value → Shared → Prop), Q (.int (g i) s.toks) { s with toks := s.toks + 1 } → wpAny (model X.prog X.w) X.A (f (.int i t)) Q E s) :
    UnR X f (rU fun i => .int (g i)) := by
  intro pins s σ H x v Q I rx h
  obtain ⟨i, rfl, q⟩ := h
  obtain ⟨t, rfl⟩ := rx
  exact rule i t s _ _ ⟨.int (g i), H, I.tok _, ⟨_, rfl⟩, q⟩
theorem un_neg : UnR X (unaryOp .USub) (rU fun i => .int (-i)) := unI fun _ _ _ _ _ q => neg_int q
/-! ### bools among ints: n += (a < b) -/
end

/-! ### comparisons -/
/-- the scalars that == tells apart as data does -/
def scal : V → V → Bool
  | .non, .non => true | .non, .int _ => true | .int _, .non => true | .non, .bl _ => true | .bl _, .non => true | .non, .str _ => true | .str _, .non => true
  | .int _, .int _ => true | .bl _, .bl _ => true | .str _, .str _ => true | .byt _, .byt _ => true
  | .int _, .str _ => true | .str _, .int _ => true | .bl _, .str _ => true | .str _, .bl _ => true
  | _, _ => false
def rEq : R2 := fun x y H Q => scal x y = true ∧ Q (.bl (decide (x = y))) H
def rNe : R2 := fun x y H Q => scal x y = true ∧ Q (.bl (!decide (x = y))) H

theorem dec_int {i j : Int} : decide (V.int i = V.int j) = (i == j) := by
  rw [Bool.eq_iff_iff]
  simp
theorem dec_bl {i j : Bool} : decide (V.bl i = V.bl j) = (i == j) := by
  rw [Bool.eq_iff_iff]
  simp
theorem dec_str {i j : Str} : decide (V.str i = V.str j) = (i == j) := by
  rw [Bool.eq_iff_iff]
  simp
theorem dec_byt {i j : Array UInt8} : decide (V.byt i = V.byt j) = (i.toList == j.toList) := by
  rw [Bool.eq_iff_iff]
  cases i
  cases j
  simp

section
variable {X : Cx} {a b c : Expr} {ta tb tc : TE} {pos : Pos}
theorem fin_bl {pins : List (Addr × Obj)} {σ : St} {H : Hp} {s : Shared} {Q : VK} {k k' : Bool} (I : Inv X pins σ H s) (q : Q (.bl k) H) (e : k = k') : EP X pins σ Q (.bool k') s := by
  subst e
  exact ⟨.bl k, H, I, rfl, q⟩
theorem op_eq : OpR X (compareOp .Eq) rEq := by
  intro pins s σ H x y v u Q I rx ry h
  obtain ⟨hs, q⟩ := h
  cases x with
  | non =>
    cases rx
    cases y with
    | non => cases ry; exact PySem.EqNone.eq_none_none (fin_bl I q (by simp))
    | bl j => cases ry; exact PySem.EqNone.eq_none_bool (fin_bl I q (by simp))
    | int j => obtain ⟨t', rfl⟩ := ry; exact PySem.EqNone.eq_none_int (fin_bl I q (by simp))
    | str j => obtain ⟨t', rfl⟩ := ry; exact PySem.EqNone.eq_none_str (fin_bl I q (by simp))
    | _ => exact absurd (show false = true from hs) Bool.false_ne_true
  | bl i =>
    cases rx
    cases y with
    | non => cases ry; exact PySem.EqNone.eq_bool_none (fin_bl I q (by simp))
    | bl j => cases ry; exact eq_bool (fin_bl I q dec_bl)
    | str j => obtain ⟨t', rfl⟩ := ry; exact PySem.EqMixed.eq_bool_str (fin_bl I q (by simp))
    | _ => exact absurd (show false = true from hs) Bool.false_ne_true
  | int i =>
    obtain ⟨t, rfl⟩ := rx
    cases y with
    | non => cases ry; exact PySem.EqNone.eq_int_none (fin_bl I q (by simp))
    | int j => obtain ⟨t', rfl⟩ := ry; exact eq_int (fin_bl I q dec_int)
    | str j => obtain ⟨t', rfl⟩ := ry; exact PySem.EqMixed.eq_int_str (fin_bl I q (by simp))
    | _ => exact absurd (show false = true from hs) Bool.false_ne_true
  | str i =>
    obtain ⟨t, rfl⟩ := rx
    cases y with
    | non => cases ry; exact PySem.EqNone.eq_str_none (fin_bl I q (by simp))
    | bl j => cases ry; exact PySem.EqMixed.eq_str_bool (fin_bl I q (by simp))
    | int j => obtain ⟨t', rfl⟩ := ry; exact PySem.EqMixed.eq_str_int (fin_bl I q (by simp))
    | str j => obtain ⟨t', rfl⟩ := ry; exact eq_str (fin_bl I q dec_str)
    | _ => exact absurd (show false = true from hs) Bool.false_ne_true
  | byt i =>
    obtain ⟨t, rfl⟩ := rx
    cases y with
    | byt j => obtain ⟨t', rfl⟩ := ry; exact PySem.W.eq_bytes (fin_bl I q dec_byt)
    | _ => exact absurd (show false = true from hs) Bool.false_ne_true
  | _ => cases y <;> exact absurd (show false = true from hs) Bool.false_ne_true
theorem op_ne : OpR X (compareOp .NotEq) rNe := by
  intro pins s σ H x y v u Q I rx ry h
  obtain ⟨hs, q⟩ := h
  cases x with
  | non =>
    cases rx
    cases y with
    | non => cases ry; exact PySem.EqNone.ne_none_none (fin_bl I q (by simp))
    | bl j => cases ry; exact PySem.EqNone.ne_none_bool (fin_bl I q (by simp))
    | int j => obtain ⟨t', rfl⟩ := ry; exact PySem.EqNone.ne_none_int (fin_bl I q (by simp))
    | str j => obtain ⟨t', rfl⟩ := ry; exact PySem.EqNone.ne_none_str (fin_bl I q (by simp))
    | _ => exact absurd (show false = true from hs) Bool.false_ne_true
  | bl i =>
    cases rx
    cases y with
    | non => cases ry; exact PySem.EqNone.ne_bool_none (fin_bl I q (by simp))
    | bl j => cases ry; exact ne_bool (fin_bl I q (congrArg not dec_bl))
    | str j => obtain ⟨t', rfl⟩ := ry; exact PySem.EqMixed.ne_bool_str (fin_bl I q (by simp))
    | _ => exact absurd (show false = true from hs) Bool.false_ne_true
  | int i =>
    obtain ⟨t, rfl⟩ := rx
    cases y with
    | non => cases ry; exact PySem.EqNone.ne_int_none (fin_bl I q (by simp))
    | int j => obtain ⟨t', rfl⟩ := ry; exact ne_int (fin_bl I q (congrArg not dec_int))
    | str j => obtain ⟨t', rfl⟩ := ry; exact PySem.EqMixed.ne_int_str (fin_bl I q (by simp))
    | _ => exact absurd (show false = true from hs) Bool.false_ne_true
  | str i =>
    obtain ⟨t, rfl⟩ := rx
    cases y with
    | non => cases ry; exact PySem.EqNone.ne_str_none (fin_bl I q (by simp))
    | bl j => cases ry; exact PySem.EqMixed.ne_str_bool (fin_bl I q (by simp))
    | int j => obtain ⟨t', rfl⟩ := ry; exact PySem.EqMixed.ne_str_int (fin_bl I q (by simp))
    | str j => obtain ⟨t', rfl⟩ := ry; exact ne_str (fin_bl I q (congrArg not dec_str))
    | _ => exact absurd (show false = true from hs) Bool.false_ne_true
  | byt i =>
    obtain ⟨t, rfl⟩ := rx
    cases y with
    | byt j => obtain ⟨t', rfl⟩ := ry; exact PySem.W.ne_bytes (fin_bl I q (congrArg not dec_byt))
    | _ => exact absurd (show false = true from hs) Bool.false_ne_true
  | _ => cases y <;> exact absurd (show false = true from hs) Bool.false_ne_true

theorem op_lt : OpR X (compareOp .Lt) (rI0 fun i j => .bl (decide (i < j))) := opB0 fun _ _ _ _ _ _ _ q => lt_int q
theorem op_le : OpR X (compareOp .LtE) (rI0 fun i j => .bl (decide (i ≤ j))) := opB0 fun _ _ _ _ _ _ _ q => le_int q
theorem op_gt : OpR X (compareOp .Gt) (rI0 fun i j => .bl (decide (j < i))) := opB0 fun _ _ _ _ _ _ _ q => gt_int q
theorem op_ge : OpR X (compareOp .GtE) (rI0 fun i j => .bl (decide (j ≤ i))) := opB0 fun _ _ _ _ _ _ _ q => ge_int q
/-- is None, is not None: the right side a value none -/
theorem op_isN : OpR X (compareOp .Is) (fun x y H Q => y = .non ∧ Q (.bl (decide (x = .non))) H) := by
  intro pins s σ H x y v u Q I rx ry h
  obtain ⟨rfl, q⟩ := h
  cases ry
  refine is_none_gen (fin_bl I q ?_)
  cases x <;> first
    | (cases rx; rfl)
    | (obtain ⟨t, rfl⟩ := rx; rfl)
/-- two rules for one operation: by cases -/
theorem OpR.or {f : Value → Value → Sem Value} {r r' : R2} (h : OpR X f r) (h' : OpR X f r') : OpR X f (fun x y H Q => r x y H Q ∨ r' x y H Q) := by
  intro pins s σ H x y v u Q I rx ry q
  rcases q with q | q
  · exact h pins s σ H x y v u Q I rx ry q
  · exact h' pins s σ H x y v u Q I rx ry q

theorem nomark (b : Expr) {op : CmpOp} (h : op ≠ .In := by decide) (h2 : op ≠ .NotIn := by decide) : behindInMarks op b = false := by
  have e1 : (op == CmpOp.In) = false := by cases op <;> first | rfl | exact absurd rfl h
  have e2 : (op == CmpOp.NotIn) = false := by cases op <;> first | rfl | exact absurd rfl h2
  cases b <;> simp [behindInMarks, e1, e2]
/-- a comparison as a value; hm: nomark b, or (for in, not in) by with_unfolding_all rfl -/
theorem pe_cmpR {op : CmpOp} {r : R2} (ho : OpR X (compareOp op) r) (ha : PE X a ta) (hb : PE X b tb) (hm : behindInMarks op b = false) : PE X (.Compare a [op] [b] pos) (tOp r ta tb) := by
  refine .mk fun pins s σ H Q I h => ?_
  exact wpAny_Compare1 (binT ha hb I h fun v u s2 x y H2 I2 rx ry q => ho pins s2 σ H2 x y v u Q I2 rx ry q) hm
/-- a reading of a value as a test -/
def tTest (t : TE) : TT := fun σ H Q => t σ H fun x H' => ∃ k, x = .bl k ∧ Q k H'
theorem pt_cmpR {op : CmpOp} {r : R2} (ho : OpR X (compareOp op) r) (ha : PE X a ta) (hb : PE X b tb) (hm : behindInMarks op b = false) : PT X (.Compare a [op] [b] pos) (tTest (tOp r ta tb)) := by
  refine .mk fun pins s σ H Q I h => ?_
  refine wpAny_isTrue_Compare1 (thn (ha pins s σ H _ I h) fun v s1 ⟨x, H1, I1, r1, q1⟩ => thn (hb pins s1 σ H1 _ I1 q1) fun u s2 ⟨y, H2, I2, r2, q2⟩ =>
    thn (ho pins s2 σ H2 x y v u _ I2 r1 r2 q2) fun c s3 ⟨z, H3, I3, r3, k, e, q3⟩ => ?_) hm
  subst e
  cases r3
  exact wpAny_truthy_bool ⟨H3, I3, q3⟩
/-- a op1 b op2 c -/
def tChain (r r' : R2) (ta tb tc : TE) : TE := fun σ H Q => ta σ H fun x H1 => tb σ H1 fun y H2 => r x y H2 fun z H3 => ∃ k, z = .bl k ∧
  (if k = true then tc σ H3 fun w' H4 => r' y w' H4 Q else Q (.bl false) H3)
theorem pe_chain {op op' : CmpOp} {r r' : R2} (ho : OpR X (compareOp op) r) (ho' : OpR X (compareOp op') r') (ha : PE X a ta) (hb : PE X b tb) (hc : PE X c tc)
    (hm : lastMarks [op, op'] [b, c] = false := by with_unfolding_all rfl) : PE X (.Compare a [op, op'] [b, c] pos) (tChain r r' ta tb tc) := by
  refine .mk fun pins s σ H Q I h => ?_
  refine Compare_chain (thn (ha pins s σ H _ I h) fun v s1 ⟨x, H1, I1, r1, q1⟩ => chain_link (thn (hb pins s1 σ H1 _ I1 q1) fun u s2 ⟨y, H2, I2, r2, q2⟩ =>
    thn (ho pins s2 σ H2 x y v u _ I2 r1 r2 q2) fun d s3 ⟨z, H3, I3, r3, k, e, q3⟩ => ?_)) hm
  subst e
  cases r3
  refine wpAny_truthy_bool ?_
  cases k with
  | false => exact ite_ff ⟨.bl false, H3, I3, rfl, q3⟩
  | true => exact ite_tt (chain_last (thn (hc pins s3 σ H3 _ I3 q3) fun w' s4 ⟨z', H4, I4, r4, q4⟩ => ho' pins s4 σ H4 y z' u w' Q I4 r2 r4 q4))
theorem pt_chain {op op' : CmpOp} {r r' : R2} (ho : OpR X (compareOp op) r) (ho' : OpR X (compareOp op') r') (ha : PE X a ta) (hb : PE X b tb) (hc : PE X c tc)
    (hm : lastMarks [op, op'] [b, c] = false := by with_unfolding_all rfl) : PT X (.Compare a [op, op'] [b, c] pos) (tTest (tChain r r' ta tb tc)) := by
  refine .mk fun pins s σ H Q I h => ?_
  refine isTrue_chain (thn (ha pins s σ H _ I h) fun v s1 ⟨x, H1, I1, r1, q1⟩ => test_link (thn (hb pins s1 σ H1 _ I1 q1) fun u s2 ⟨y, H2, I2, r2, q2⟩ =>
    thn (ho pins s2 σ H2 x y v u _ I2 r1 r2 q2) fun d s3 ⟨z, H3, I3, r3, k, e, q3⟩ => ?_)) hm
  subst e
  cases r3
  refine wpAny_truthy_bool ?_
  cases k with
  | false =>
    obtain ⟨k', e', q'⟩ := q3
    cases e'
    exact ite_ff ⟨H3, I3, q'⟩
  | true =>
    refine ite_tt (test_last (thn (hc pins s3 σ H3 _ I3 q3) fun w' s4 ⟨z', H4, I4, r4, q4⟩ => thn (ho' pins s4 σ H4 y z' u w' _ I4 r2 r4 q4) fun d' s5 ⟨z2, H5, I5, r5, k2, e2, q5⟩ => ?_))
    subst e2
    cases r5
    exact wpAny_truthy_bool ⟨H5, I5, q5⟩

/-! ### truth -/
theorem line63 : (sizeLine : Nat) < 2 ^ 63 := by rw [sizeLine_eq]; decide
/-! ### strs and bytes -/
/-! ### scalar builtins, by CallR -/
theorem vals1 {x : V} {us : List Value} (r : Vals [x] us) : ∃ u, us = [u] ∧ RelV x u := by
  cases r with
  | cons r1 r2 => cases r2; exact ⟨_, rfl, r1⟩
theorem vals2 {x y : V} {us : List Value} (r : Vals [x, y] us) : ∃ u w', us = [u, w'] ∧ RelV x u ∧ RelV y w' := by
  cases r with
  | cons r1 r2 =>
    cases r2 with
    | cons r3 r4 => cases r4; exact ⟨_, _, rfl, r1, r3⟩
theorem call_max2 (hc : X.calm = true) : CallR X (.builtin "max") (fun xs H Q => ∃ i j, xs = [.int i, .int j] ∧ Q (.int (if j > i then j else i)) H) := by
  intro pins s σ H xs us Q I r h
  obtain ⟨i, j, rfl, q⟩ := h
  obtain ⟨u, w', rfl, ⟨t, rfl⟩, ⟨t', rfl⟩⟩ := vals2 r
  refine max_two_ints (I.ok.hd hc) fun h' tk k => ⟨_, H, I.kept k, ?_, q⟩
  by_cases hj : j > i
  · rw [if_pos hj, if_pos hj]; exact ⟨_, rfl⟩
  · rw [if_neg hj, if_neg hj]; exact ⟨_, rfl⟩
theorem call_min2 (hc : X.calm = true) : CallR X (.builtin "min") (fun xs H Q => ∃ i j, xs = [.int i, .int j] ∧ Q (.int (if j < i then j else i)) H) := by
  intro pins s σ H xs us Q I r h
  obtain ⟨i, j, rfl, q⟩ := h
  obtain ⟨u, w', rfl, ⟨t, rfl⟩, ⟨t', rfl⟩⟩ := vals2 r
  refine min_two_ints (I.ok.hd hc) fun h' tk k => ⟨_, H, I.kept k, ?_, q⟩
  by_cases hj : j < i
  · rw [if_pos hj, if_pos hj]; exact ⟨_, rfl⟩
  · rw [if_neg hj, if_neg hj]; exact ⟨_, rfl⟩
end
end L2

namespace L2
open PySem PySem.Spec PyProof.Rows

/-! ### an instance, its attributes a map -/
structure ObjM (h : Heap) (x dx C : Addr) (mA : Str → Option Value) : Prop where
  obj : h.get? x = some (PySem.W.instObj C dx)
  ns : h.Ns1 dx mA
  ne : dx ≠ x

theorem lookIn_ns {h : Heap} {dx : Addr} {mA : Str → Option Value} (n : h.Ns1 dx mA) : ∃ od, h.get? dx = some od ∧ ∀ name, PySem.W.lookIn name od = some (mA name) := by
  obtain ⟨o, es, ep, ho, hd, hk, _, hm⟩ := n
  refine ⟨o, ho, fun name => ?_⟩
  have e := hm name
  unfold nsFind findBy at e
  rw [← Array.find?_toList] at e
  unfold PySem.W.lookIn
  rw [hd]
  dsimp only
  split
  · rename_i y q
    rw [q] at e
    exact congrArg some e
  · rename_i q
    rw [q] at e
    have a : es.toList.any (·.refKey) = false := by
      rw [List.any_eq_false]
      intro y hy
      obtain ⟨z, t, hkey⟩ := hk y (Array.mem_toList_iff.mp hy)
      simp [DictEntry.refKey, hkey]
    have a' : ¬ es.toList.any (·.refKey) = true := by rw [a]; exact Bool.false_ne_true
    rw [if_neg a']
    exact congrArg some e

theorem ObjM.look {h : Heap} {x dx C : Addr} {mA : Str → Option Value} (I : ObjM h x dx C mA) : ∃ od, PySem.W.InstAt h x (PySem.W.instObj C dx) C (some od) ∧ ∀ name, PySem.W.lookIn name od = some (mA name) :=
  let ⟨od, ho, hl⟩ := lookIn_ns I.ns
  ⟨od, ⟨I.obj, rfl, rfl, ho⟩, hl⟩

section
variable {prog : Program} {w : World} {A : Around} {E : Value → Shared → Prop} {s : Shared} {K : PySem.W.Frag} {x dx C f : Addr} {mA : Str → Option Value} {name : Str} {v : Value}

theorem get_map {expr : Bool} {Q : Value → Shared → Prop} (X : K.In s.heap) (I : ObjM s.heap x dx C mA) (hg : PySem.W.plainGet K C name = true) (hh : PySem.W.hasDictIn K C = true)
    (ha : PySem.W.findIn K (.ref C) name = some none) (hv : mA name = some v) (hv' : PySem.W.handedIn v = true) (h : Q v { s with toks := s.toks + 1 }) :
    wpAny (model prog w) A (getAttr (.ref x) name expr) Q E s := by
  obtain ⟨od, J, hl⟩ := I.look
  exact PySem.W.get_value X J (PySem.W.plainGet_of hg).1 (PySem.W.findObj_own hh ha rfl (by rw [hl, hv])) hv' h

theorem get_meth {pl : Sem Bool} {Q : Value × List Value → Shared → Prop} (X : K.In s.heap) (I : ObjM s.heap x dx C mA) (hg : PySem.W.plainGet K C name = true)
    (hf : PySem.W.findIn K (.ref C) name = some (some (.ref f))) (ht : PySem.W.isFn K (.ref f) = true) (hv : mA name = none) (h : Q (.ref f, [.ref x]) s) :
    wpAny (model prog w) A (getMethod (.ref x) name pl) Q E s := by
  obtain ⟨od, J, hl⟩ := I.look
  exact PySem.W.method_fn X J (PySem.W.plainGet_of hg).1 (PySem.W.plainGet_of hg).2 hf (beq_iff_eq.mp ht) (by show (PySem.W.lookIn name od).map (·.isSome) = some false; rw [hl, hv]; rfl) h

theorem set_map {ns : List Str} {Q : Unit → Shared → Prop} (X : K.In s.heap) (I : ObjM s.heap x dx C mA)
    (hs : PySem.W.findIn K (.ref C) "__setattr__" = some (some (.builtin "object.__setattr__"))) (hp : PySem.W.plainOver K C = true) (ht : PySem.W.takerIn K C name = some none) (hh : PySem.W.hasDictIn K C = true)
    (hw : PySem.Within mA ns) (hsz : ns.length ≤ sizeLine)
    (h : ∀ h', ObjM h' x dx C (fun y => if y = name then some v else mA y) → Heap.SameBut dx s.heap h' → Q () { s with heap := h', toks := s.toks + 2 }) :
    wpAny (model prog w) A (setAttr (.ref x) name v) Q E s := by
  obtain ⟨od, J, hl⟩ := I.look
  refine PySem.W.set_plain X J hs (PySem.W.osa_open (s := { s with toks := s.toks + 1 }) (r := none) X J hp ht fun b => ?_)
  obtain ⟨cd, hc, hd'⟩ := PySem.W.any_some hh
  have hx : s.heap.get? x = some ⟨.ref C, some dx, .plain, #[]⟩ := I.obj
  refine wpAny_bind (wpAny_pure (wpAny_bind (wpAny_bind (wpAny_loadPart hx (wpAny_bind (PySem.W.Looks.here (s := { s with toks := s.toks + 1 }) (PySem.W.looks_clsIn X hc) ?_))))))
  rw [hd']
  refine wpAny_pure (a := some dx) (wpAny_bind (wpAny_pure (wpAny_bind ?_)))
  refine wpAny_nsSet1 (s := { s with toks := s.toks + 1 }) I.ns fun h' hn2 hs2 => ?_
  obtain ⟨oD, esD, epD, hoD, hdD, hcD⟩ := hn2.count (PySem.Within.cons name v hw)
  refine wpAny_bind (wpAny_lookBehind hoD (by rw [hdD]; exact pastItsLine_dict (Nat.le_trans hcD (by rw [List.length_cons]; omega))) ?_)
  exact wpAny_pure (h _ ⟨(hs2.2 _ (Ne.symm I.ne)).trans I.obj, hn2, I.ne⟩ hs2)

/-- C(..): the dict at the heap's end, the instance behind it; then its __init__ -/
theorem make_map {R : Result → Shared → Prop} {vs : List Value} {kw : List (Str × Value)} (X : K.In s.heap) (hm : PySem.W.makesIn K C = true)
    (hi : PySem.W.findIn K (.ref C) "__init__" = some (some (.ref f))) (hf : PySem.W.typeIn K (.ref f) = some (.type "function"))
    (h : codeAny (model prog w) (A.under (.builtin "type.__call__" ⟨.ref C :: vs, kw⟩)) (.call (.ref f) ⟨.ref (s.heap.objs.size + 1) :: vs, kw⟩) (PySem.W.InitBack (s.heap.objs.size + 1) R)
      { s with heap := (s.heap.push PySem.W.emptyDict).push (PySem.W.instObj C s.heap.objs.size) }) :
    codeAny (model prog w) A (.call (.ref C) ⟨vs, kw⟩) R s := by
  obtain ⟨hh, g, d, t, os⟩ := s
  exact PySem.W.make_core (PySem.W.makes_of X hm) (PySem.W.looks_findIn X hi) (fun self => PySem.W.bind_fn X self hf) (.inl rfl) h
end

/-! ### the attributes as a list of pairs -/
def putF (f : Str) (v : V) : List (Str × V) → List (Str × V)
  | [] => [(f, v)]
  | (g, x) :: r => if g = f then (g, v) :: r else (g, x) :: putF f v r
theorem lookup_putF (f g : Str) (v : V) : ∀ fs : List (Str × V), (putF f v fs).lookup g = if g = f then some v else fs.lookup g
  | [] => by
    show List.lookup g [(f, v)] = _
    by_cases h : g = f
    · have hb : (g == f) = true := beq_iff_eq.mpr h
      simp only [List.lookup, hb, if_pos h]
    · have hb : (g == f) = false := beq_eq_false_iff_ne.mpr h
      simp only [List.lookup, hb, if_neg h]
  | (k, x) :: r => by
    have ih := lookup_putF f g v r
    rw [show putF f v ((k, x) :: r) = (if k = f then (k, v) :: r else (k, x) :: putF f v r) from rfl]
    by_cases hk : k = f
    · rw [if_pos hk]
      by_cases h : g = k
      · have hb : (g == k) = true := beq_iff_eq.mpr h
        simp only [List.lookup, hb, if_pos (h.trans hk)]
      · have hb : (g == k) = false := beq_eq_false_iff_ne.mpr h
        simp only [List.lookup, hb, if_neg (fun e : g = f => h (e.trans hk.symm))]
    · rw [if_neg hk]
      by_cases h : g = k
      · have hb : (g == k) = true := beq_iff_eq.mpr h
        simp only [List.lookup, hb, if_neg (fun e : g = f => hk (h.symm.trans e))]
      · have hb : (g == k) = false := beq_eq_false_iff_ne.mpr h
        simp only [List.lookup, hb]
        exact ih
theorem keys_putF (f : Str) (v : V) : ∀ fs : List (Str × V), f ∈ (putF f v fs).map (·.1) ∧ ∀ g, g ∈ fs.map (·.1) → g ∈ (putF f v fs).map (·.1)
  | [] => ⟨by simp [putF], fun g h => by simp at h⟩
  | (k, x) :: r => by
    obtain ⟨i1, i2⟩ := keys_putF f v r
    rw [show putF f v ((k, x) :: r) = (if k = f then (k, v) :: r else (k, x) :: putF f v r) from rfl]
    by_cases hk : k = f
    · rw [if_pos hk]
      subst hk
      exact ⟨by simp, fun g h => by simpa using h⟩
    · rw [if_neg hk]
      refine ⟨?_, fun g h => ?_⟩
      · rw [List.map_cons]
        exact List.mem_cons_of_mem _ i1
      · rw [List.map_cons] at h ⊢
        rcases List.mem_cons.mp h with e | e
        · exact List.mem_cons.mpr (.inl e)
        · exact List.mem_cons_of_mem _ (i2 g e)
theorem length_putF (f : Str) (v : V) : ∀ fs : List (Str × V), (putF f v fs).length ≤ fs.length + 1
  | [] => by simp [putF]
  | (k, x) :: r => by
    have ih := length_putF f v r
    rw [show putF f v ((k, x) :: r) = (if k = f then (k, v) :: r else (k, x) :: putF f v r) from rfl]
    by_cases hk : k = f
    · rw [if_pos hk, List.length_cons, List.length_cons]; omega
    · rw [if_neg hk, List.length_cons, List.length_cons]; omega

theorem RelO.some_of {v : V} {o : Option Value} (r : RelO (some v) o) : ∃ u, o = some u ∧ RelV v u := by
  cases o with
  | none => exact (show False from r).elim
  | some u => exact ⟨u, rfl, r⟩
theorem RelO.none_of {o : Option Value} (r : RelO none o) : o = none := by
  cases o with
  | none => rfl
  | some u => exact (show False from r).elim
theorem handed_of {v : V} {u : Value} (r : RelV v u) : PySem.W.handedIn u = true := by
  cases v with
  | non => cases (show u = Value.none from r); rfl
  | bl b => cases (show u = Value.bool b from r); rfl
  | int i => obtain ⟨t, e⟩ := (show ∃ t, u = Value.int i t from r); cases e; rfl
  | str x => obtain ⟨t, e⟩ := (show ∃ t, u = Value.str x t from r); cases e; rfl
  | byt b => obtain ⟨t, e⟩ := (show ∃ t, u = Value.bytes b t from r); cases e; rfl
  | flt b => obtain ⟨t, e⟩ := (show ∃ t, u = Value.float b t from r); cases e; rfl
  | ref a => cases (show u = Value.ref a from r); rfl
  | ty n => cases (show u = Value.type n from r); rfl

section
variable {P : Program} {w : World} {H H' : Hp} {h h' : Heap} {a C dx : Addr} {fs fs' : List (Str × V)}
theorem ins_get (hok : HOk P w H h) (e : H a = some (.ins C dx fs)) : ∃ mA, ObjM h a dx C mA ∧ (∀ f, RelO (fs.lookup f) (mA f)) ∧ PySem.Within mA (fs.map (·.1)) ∧ fs.length ≤ 1000 ∧ H dx = some (.own a) := by
  obtain ⟨d, z, ne, ob, mA, n, r, q⟩ := (show ObjOk P w H h a (.ins C dx fs) from hok a _ e)
  exact ⟨mA, ⟨ob, n, ne⟩, r, q, z, d⟩
end

/-! ### what of the text a class must have -/
structure Cls (K : PySem.W.Frag) (C : Addr) : Prop where
  pg : PySem.W.plainGet K C Str.empty = true
  hd : PySem.W.hasDictIn K C = true
  po : PySem.W.plainOver K C = true
  sa : PySem.W.findIn K (.ref C) "__setattr__" = some (some (.builtin "object.__setattr__"))
theorem Cls.get {K : PySem.W.Frag} {C : Addr} (c : Cls K C) (f : Str) : PySem.W.plainGet K C f = true := c.pg
/-- no class of it has the name -/
def NoAttr (K : PySem.W.Frag) (C : Addr) (f : Str) : Prop := PySem.W.findIn K (.ref C) f = some none
theorem NoAttr.taker {K : PySem.W.Frag} {C : Addr} {f : Str} (n : NoAttr K C f) : PySem.W.takerIn K C f = some none := by
  unfold PySem.W.takerIn
  rw [show PySem.W.findIn K (.ref C) f = some none from n]
  rfl
/-- a constant of the class -/
structure Con (K : PySem.W.Frag) (C : Addr) (f : Str) (v : V) (u : Value) : Prop where
  at_ : PySem.W.findIn K (.ref C) f = some (some u)
  rel : RelV v u
  get : PySem.W.specialIn K u "__get__" = some none
  cp : PySem.W.copiedNames.contains f = false
/-- a method: a plain def of the class or of one above it -/
structure Meth (K : PySem.W.Frag) (C : Addr) (m : Str) (f : Addr) : Prop where
  at_ : PySem.W.findIn K (.ref C) m = some (some (.ref f))
  fn : PySem.W.isFn K (.ref f) = true
  kp : PySem.W.keepIn K (.ref f) = true

section
variable {X : Cx} {pins : List (Addr × Obj)} {σ : St} {H : Hp} {s : Shared} {a C dx : Addr} {fs : List (Str × V)} {f : Str} {v : V} {A : Around} {E : Value → Shared → Prop}

theorem getattr_ok {b : Bool} {Q : Value → Shared → Prop} (I : Inv X pins σ H s) (e : H a = some (.ins C dx fs)) (c : Cls X.K C) (n : NoAttr X.K C f) (l : fs.lookup f = some v)
    (h : ∀ u s', Inv X pins σ H s' → RelV v u → Q u s') : wpAny (model X.prog X.w) A (getAttr (.ref a) f b) Q E s := by
  obtain ⟨mA, O, r, _, _, _⟩ := ins_get I.hok e
  obtain ⟨u, hu, ru⟩ := RelO.some_of (v := v) (o := mA f) (by rw [← l]; exact r f)
  exact get_map I.kIn O (c.get f) c.hd n hu (handed_of ru) (h u _ (I.tok _) ru)

theorem getmeth_ok {m : Str} {g : Addr} {pl : Sem Bool} {Q : Value × List Value → Shared → Prop} (I : Inv X pins σ H s) (e : H a = some (.ins C dx fs)) (c : Cls X.K C) (k : Meth X.K C m g) (l : fs.lookup m = none)
    (h : Q (.ref g, [.ref a]) s) : wpAny (model X.prog X.w) A (getMethod (.ref a) m pl) Q E s := by
  obtain ⟨mA, O, r, _, _, _⟩ := ins_get I.hok e
  have hn : mA m = none := RelO.none_of (by rw [← l]; exact r m)
  exact get_meth I.kIn O (c.get m) k.at_ k.fn hn h

theorem setattr_ok {y : V} {u : Value} {Q : Unit → Shared → Prop} (I : Inv X pins σ H s) (e : H a = some (.ins C dx fs)) (c : Cls X.K C) (n : NoAttr X.K C f) (hl : fs.length < 1000) (ry : RelV y u)
    (h : ∀ s', Inv X pins σ (upd H a (.ins C dx (putF f y fs))) s' → Q () s') : wpAny (model X.prog X.w) A (setAttr (.ref a) f u) Q E s := by
  obtain ⟨mA, O, r, wi, _, ho⟩ := ins_get I.hok e
  have hz : (fs.map (·.1)).length ≤ sizeLine := by rw [List.length_map, sizeLine_eq]; omega
  refine set_map I.kIn O c.sa c.po n.taker c.hd wi hz fun h' O' sb => h _ ?_
  have hd : ∃ o, h'.get? dx = some o := let ⟨o, _, _, e', _⟩ := O'.ns; ⟨o, e'⟩
  refine I.write (x := a) (e := dx) (by rw [e]; exact True.intro) (.inr ho) (fun b q hb z => (sb.2 b hb).trans z) hd ?_
  refine ⟨by rw [upd_ne O.ne]; exact ho, ?_, O.ne, O'.obj, _, O'.ns, fun g => ?_, fun g hg => ?_⟩
  · have := length_putF f y fs; omega
  · show RelO ((putF f y fs).lookup g) (if g = f then some u else mA g)
    rw [lookup_putF]
    by_cases q : g = f
    · rw [if_pos q, if_pos q]; exact ry
    · rw [if_neg q, if_neg q]; exact r g
  · by_cases q : g = f
    · rw [q]; exact (keys_putF f y fs).1
    · refine (keys_putF f y fs).2 g (wi g fun z => hg ?_)
      show (if g = f then some u else mA g) = none
      rw [if_neg q]; exact z

/-- a new instance, tracked, without attributes -/
theorem Inv.made (I : Inv X pins σ H s) : Inv X pins σ (upd (upd H s.heap.objs.size (.own (s.heap.objs.size + 1))) (s.heap.objs.size + 1) (.ins C s.heap.objs.size []))
    { s with heap := (s.heap.push PySem.W.emptyDict).push (PySem.W.instObj C s.heap.objs.size) } := by
  have e1 : (s.heap.push PySem.W.emptyDict).get? s.heap.objs.size = some PySem.W.emptyDict := Heap.get?_push_size s.heap rfl
  have e2 : ((s.heap.push PySem.W.emptyDict).push (PySem.W.instObj C s.heap.objs.size)).get? (s.heap.objs.size + 1) = some (PySem.W.instObj C s.heap.objs.size) := by
    have := Heap.get?_push_size (s.heap.push PySem.W.emptyDict) (o := PySem.W.instObj C s.heap.objs.size) rfl
    rwa [Heap.size_push] at this
  have e3 : (s.heap.push PySem.W.emptyDict).Ns s.heap.objs.size (fun _ => none) := ⟨PySem.W.emptyDict, #[], _, e1, rfl, (fun e he => absurd he (by simp)), fun _ => rfl⟩
  have I1 := I.laid (a := s.heap.objs.size) (o := .own (s.heap.objs.size + 1)) (h' := s.heap.push PySem.W.emptyDict) (t' := s.toks) (fun b u q => Heap.get?_push_of_some _ q) (Nat.le_refl _) ⟨_, e1⟩
  refine I1.laid (a := s.heap.objs.size + 1) (o := .ins C s.heap.objs.size []) (t' := s.toks) (fun b u q => Heap.get?_push_of_some _ q) (Nat.le_of_eq (Heap.size_push _ _)) ?_
  have ne : s.heap.objs.size ≠ s.heap.objs.size + 1 := Nat.ne_of_lt (Nat.lt_succ_self _)
  refine ⟨by rw [upd_ne ne, upd_same], Nat.zero_le _, ne, e2, fun _ => none, (Heap.Ns1.of_empty e3).at fun o q => Heap.get?_push_of_some _ q, fun _ => True.intro, fun y hy => absurd rfl hy⟩

/-- e.f where nothing but the object is asked: through attributeBase (super) and the last hold -/
theorem attr_of {prog : Program} {w : World} {env : Env} {e : Expr} {f : Str} {pos : Pos} {s : Shared} {Q : Value → Shared → Prop} (hb : attributeBase e f env (eval e env) = eval e env)
    (h : wpAny (model prog w) A (eval e env) (fun o s₁ => wpAny (model prog w) A (getAttr o f true) Q E s₁) E s) : wpAny (model prog w) A (eval (.Attribute e f pos) env) Q E s :=
  Attribute_any_ h (by rw [arm_eval_Attribute, hb])
end

/-! ### readings and rules -/
/-- e.f, an attribute of the instance -/
def tFld (K : PySem.W.Frag) (ta : TE) (f : Str) : TE := fun σ H Q => ta σ H fun x H1 => ∃ a C dx fs v, x = .ref a ∧ H1 a = some (.ins C dx fs) ∧ Cls K C ∧ NoAttr K C f ∧ fs.lookup f = some v ∧ Q v H1
/-- e.f = value -/
def sFld (K : PySem.W.Frag) (ta tv : TE) (f : Str) : TS := fun D σ H => tv σ H fun y H1 => ta σ H1 fun x H2 => ∃ a C dx fs, x = .ref a ∧ H2 a = some (.ins C dx fs) ∧ Cls K C ∧ NoAttr K C f ∧ fs.length < 1000 ∧
  D.nx σ (upd H2 a (.ins C dx (putF f y fs)))
section
variable {X : Cx} {o e value : Expr} {f : Str} {pos pos' tpos : Pos} {ta tv : TE}
theorem pe_fld (he : PE X e ta) (hb : attributeBase e f X.env (eval e X.env) = eval e X.env) : PE X (.Attribute e f pos) (tFld X.K ta f) := by
  refine .mk fun pins s σ H Q I h => ?_
  refine attr_of hb (thn (he pins s σ H _ I h) fun u s1 ⟨x, H1, I1, rx, a, C, dx, fs, v, ex, ea, c, n, l, q⟩ => ?_)
  subst ex
  obtain rfl : u = Value.ref a := rx
  exact getattr_ok I1 ea c n l fun u' s2 I2 ru => ⟨v, H1, I2, ru, q⟩
theorem ps_fld (ha : PE X o ta) (hv : PE X value tv) (hs : swapsWith value (some (.Attribute o f pos')) pos.line X.env = pure false) : PS X (.Assign [.Attribute o f pos'] value pos) (sFld X.K ta tv f) := by
  refine .mk fun pins s σ H D I h => ?_
  refine plainObj_wpAny_Assign_Attribute (thn (hv pins s σ H _ I h) fun u s1 ⟨y, H1, I1, ry, q⟩ => thn (ha pins s1 σ H1 _ I1 q) fun ov s2 ⟨x, H2, I2, rx, a, C, dx, fs, ex, ea, c, n, l, q2⟩ => ?_) hs
  subst ex
  obtain rfl : ov = Value.ref a := rx
  exact setattr_ok I2 ea c n l ry fun s3 I3 => ⟨σ, _, I3, q2⟩
end

/-! ### isinstance -/
section
variable {X : Cx} {pins : List (Addr × Obj)} {σ : St} {H : Hp} {s : Shared} {A : Around} {E : Value → Shared → Prop} {Q : Value → Shared → Prop} {c : Value} {b : Bool}
/-- the type of a value, as the fragment's deciders take it; for an instance its class -/
inductive TyOf (K : PySem.W.Frag) (H : Hp) : V → Value → Prop where
  | non : TyOf K H .non (.type "NoneType")
  | bl (x : Bool) : TyOf K H (.bl x) (.type "bool")
  | int (i : Int) : TyOf K H (.int i) (.type "int")
  | str (x : Str) : TyOf K H (.str x) (.type "str")
  | flt (x : UInt64) : TyOf K H (.flt x) (.type "float")
  | lst {a : Addr} {xs : List V} (e : H a = some (.lst xs)) : TyOf K H (.ref a) (.type "list")
  | frz {a : Addr} {o : Obj} {xs : List V} (e : H a = some (.frz o (.lst xs))) : TyOf K H (.ref a) (.type "list")
  | tup {a : Addr} {xs : List V} (e : H a = some (.tup xs)) : TyOf K H (.ref a) (.type "tuple")
  | dK {a : Addr} {kvs : List (Key × V)} (e : H a = some (.dK kvs)) : TyOf K H (.ref a) (.type "dict")
  | dT {a : Addr} {kvs : List (List Key × V)} (e : H a = some (.dT kvs)) : TyOf K H (.ref a) (.type "dict")
  | ins {a C dx : Addr} {fs : List (Str × V)} (e : H a = some (.ins C dx fs)) (cl : Cls K C) (ha : PySem.W.findIn K (.ref C) "__class__" = some (some (.builtin "object.__class__")))
      (hn : PySem.W.specialIn K (.builtin "object.__class__") "__get__" = some (some (.builtin "getset_descriptor.__get__"))) (htk : PySem.W.takesIn K (.builtin "object.__class__") = some true)
      (hm : PySem.W.mroIn K C (.type "object") = some true) : TyOf K H (.ref a) (.ref C)
/-- isinstance(x, c) for one class c, a built-in or an own one: kitOne's answer -/
theorem isinst_ok {x : V} {u t : Value} (I : Inv X pins σ H s) (rx : RelV x u) (ty : TyOf X.K H x t) (e : PySem.W.kitOne X.K t c = some b) (h : ∀ tk, Q (.bool b) { s with toks := tk }) :
    wpAny (model X.prog X.w) A (call (.builtin "isinstance") [u, c]) Q E s := by
  cases ty with
  | non => cases (show u = Value.none from rx); exact PySem.W.kia_one PySem.W.kitx_none I.kIn True.intro e (fun z => nomatch z) h
  | bl y => cases (show u = Value.bool y from rx); exact PySem.W.kia_one PySem.W.kitx_bool I.kIn True.intro e (fun z => nomatch z) h
  | int i => obtain ⟨t, q⟩ := (show ∃ t, u = Value.int i t from rx); cases q; exact PySem.W.kia_one PySem.W.kitx_int I.kIn True.intro e (fun z => nomatch z) h
  | str y => obtain ⟨t, q⟩ := (show ∃ t, u = Value.str y t from rx); cases q; exact PySem.W.kia_one PySem.W.kitx_str I.kIn True.intro e (fun z => nomatch z) h
  | flt y => obtain ⟨t, q⟩ := (show ∃ t, u = Value.float y t from rx); cases q; exact PySem.W.kia_one PySem.W.kitx_float I.kIn True.intro e (fun z => nomatch z) h
  | @lst a xs ea =>
    cases (show u = Value.ref a from rx)
    obtain ⟨_, _, n, _, h1⟩ := (show ObjOk X.prog X.w H s.heap a (.lst xs) from I.hok a _ ea)
    exact PySem.W.kia_one PySem.W.kitx_list I.kIn ⟨_, h1, rfl⟩ e (fun z => nomatch z) h
  | @frz a ob xs ea =>
    cases (show u = Value.ref a from rx)
    obtain ⟨_, _, _, n, _, h1⟩ := (show ObjOk X.prog X.w H s.heap a (.frz ob (.lst xs)) from I.hok a _ ea)
    exact PySem.W.kia_one PySem.W.kitx_list I.kIn ⟨_, h1, rfl⟩ e (fun z => nomatch z) h
  | @tup a xs ea =>
    cases (show u = Value.ref a from rx)
    obtain ⟨_, _, _, p⟩ := (show ObjOk X.prog X.w H s.heap a (.tup xs) from I.hok a _ ea)
    obtain ⟨o, h1, h2, _⟩ := p
    exact PySem.W.kia_one PySem.W.kitx_tuple I.kIn ⟨o, h1, h2⟩ e (fun z => nomatch z) h
  | @dK a kvs ea =>
    cases (show u = Value.ref a from rx)
    obtain ⟨_, _, vs, _, p⟩ := (show ObjOk X.prog X.w H s.heap a (.dK kvs) from I.hok a _ ea)
    obtain ⟨o, es, ep, h1, h2, _⟩ := p
    exact PySem.W.kia_one PySem.W.kitx_dict I.kIn ⟨o, h1, h2.1⟩ e (fun z => nomatch z) h
  | @dT a kvs ea =>
    cases (show u = Value.ref a from rx)
    obtain ⟨_, _, xs, _, o, es, ep, h1, h2, _⟩ := (show ObjOk X.prog X.w H s.heap a (.dT kvs) from I.hok a _ ea)
    exact PySem.W.kia_one PySem.W.kitx_dict I.kIn ⟨o, h1, h2.1⟩ e (fun z => nomatch z) h
  | @ins a C dx fs ea cl ha hn htk hm =>
    cases (show u = Value.ref a from rx)
    obtain ⟨mA, O, _⟩ := ins_get I.hok ea
    obtain ⟨od, J, _⟩ := O.look
    exact PySem.W.kia_one (PySem.W.kitx_own (cl.get _) cl.hd ha hn htk hm) I.kIn J e (fun z => nomatch z) h
end
end L2

namespace L2
open PySem PySem.Spec PyProof.Rows

/-! ### room -/
structure Room (k : Nat) (A : Around) : Prop where
  hd : A.handled = none
  dp : A.depth + 3 * k + 5 < recursionLimit
  un : A.units + 16 * k + 200 < cLine
theorem Room.mono {j k : Nat} {A : Around} (r : Room k A) (h : j ≤ k) : Room j A := ⟨r.hd, by have := r.dp; omega, by have := r.un; omega⟩
theorem Room.deeper {k : Nat} {A : Around} (r : Room (k + 1) A) (env : Env) : Room k (A.deeper env) :=
  ⟨r.hd, by have := r.dp; show A.depth + 1 + 3 * k + 5 < _; omega, by have := r.un; show A.units + 3 + 16 * k + 200 < _; omega⟩
theorem Room.in1 {k : Nat} {A : Around} (r : Room (k + 1) A) : Room k A.in1 :=
  ⟨r.hd, by have := r.dp; show A.depth + 3 * k + 5 < _; omega, by have := r.un; show A.units + 1 + 16 * k + 200 < _; omega⟩
theorem make_depth {A : Around} {C : Addr} {us : List Value} {kw : List (Str × Value)} : (A.under (.builtin "type.__call__" ⟨.ref C :: us, kw⟩)).depth = A.depth + 1 := by
  first | rfl | simp [Around.under, Code.weight, Code.isCreation, Code.isGuard, Code.isCaller, Code.frames, Code.isFrame, guardIds]
theorem make_units {A : Around} {C : Addr} {us : List Value} {kw : List (Str × Value)} : (A.under (.builtin "type.__call__" ⟨.ref C :: us, kw⟩)).units = A.units + 1 := by
  first | rfl | simp [Around.under, Code.cUnits, Code.frames, Code.isFrame]
theorem Room.make {k : Nat} {A : Around} (r : Room (k + 1) A) (C : Addr) (us : List Value) (kw : List (Str × Value)) : Room k (A.under (.builtin "type.__call__" ⟨.ref C :: us, kw⟩)) :=
  ⟨r.hd, by have := r.dp; rw [make_depth]; omega, by have := r.un; rw [make_units]; omega⟩
theorem Room.depth {k : Nat} {A : Around} (r : Room k A) : A.depth < recursionLimit := by have := r.dp; omega
theorem Room.units {k : Nat} {A : Around} (r : Room k A) : A.units + 64 < cLine := by have := r.un; omega
/-! ### argument lists and displays -/
def tNil : TA := fun _ H Q => Q [] H
def tCons (ta : TE) (tr : TA) : TA := fun σ H Q => ta σ H fun x H1 => tr σ H1 fun xs H2 => Q (x :: xs) H2
section
variable {X : Cx} {e : Expr} {es : List Expr} {te : TE} {t : TA} {pos : Pos}
theorem pa_nil : PA X [] tNil := .mk fun _ _ _ _ H Q I h => Calls.spliced_nil ⟨[], H, I, .nil, h⟩
theorem pa_cons (ha : PE X e te) (hr : PA X es t) (hs : starEach (e :: es) X.env = (false, eval e X.env) :: starEach es X.env := by rfl) : PA X (e :: es) (tCons te t) := by
  refine .mk fun pos pins s σ H Q I h => ?_
  rw [hs]
  show wpAny _ _ (spliced ((false, eval e X.env) :: backTo pos (starEach es X.env))) _ _ s
  refine Calls.spliced_cons (thn (ha pins s σ H _ I h) fun u s1 ⟨x, H1, I1, r1, q1⟩ => ?_)
  exact thn (hr pos pins s1 σ H1 _ I1 q1) fun us s2 ⟨xs, H2, I2, r2, q2⟩ => ⟨x :: xs, H2, I2, .cons r1 r2, q2⟩

/-- a tuple, a list of written items -/
def tTup (t : TA) : TE := fun σ H Q => t σ H fun xs H1 => xs.length ≤ sizeLine ∧ ∀ p, H1 p = none → Q (.ref p) (upd H1 p (.tup xs))
def tLst (t : TA) : TE := fun σ H Q => t σ H fun xs H1 => xs.length ≤ sizeLine ∧ ∀ p, H1 p = none → Q (.ref p) (upd H1 p (.lst xs))
theorem pe_tup {x1} (h : PA X es t) : PE X (.Tuple es x1 pos) (tTup t) := by
  refine .mk fun pins s σ H Q I hq => ?_
  refine wpAny_Tuple_spliced (thn (h pos pins s σ H _ I hq) fun us s1 ⟨xs, H1, I1, r, z, q⟩ => ⟨by rw [← r.length]; exact z, ?_⟩)
  have hf : H1 s1.heap.objs.size = none := I1.hok.fresh (Nat.le_refl _)
  refine ⟨.ref s1.heap.objs.size, upd H1 s1.heap.objs.size (.tup xs), I1.laid (t' := s1.toks) (fun b u e => Heap.get?_push_of_some _ e) (Nat.le_refl _) ?_, rfl, q _ hf⟩
  exact ⟨z, us, r, ⟨_, Heap.get?_push_size _ rfl, rfl, _, rfl⟩⟩
theorem pe_lst (h : PA X es t) : PE X (.List es pos) (tLst t) := by
  refine .mk fun pins s σ H Q I hq => ?_
  refine wpAny_List_spliced (thn (h pos pins s σ H _ I hq) fun us s1 ⟨xs, H1, I1, r, z, q⟩ => ⟨by rw [← r.length]; exact z, ?_⟩)
  have hf : H1 s1.heap.objs.size = none := I1.hok.fresh (Nat.le_refl _)
  refine ⟨.ref s1.heap.objs.size, upd H1 s1.heap.objs.size (.lst xs), I1.laid (t' := s1.toks) (fun b u e => Heap.get?_push_of_some _ e) (Nat.le_refl _) ?_, rfl, q _ hf⟩
  exact ⟨z, us, 0, r, Heap.get?_push_size _ rfl⟩
end

/-! ### what a def promises -/
/-- a def's promise: the bound arguments in the parameters' order, the heap, the wanted end, the wanted exception -/
abbrev Sp := List V → Hp → VK → XK → Prop
/-- how an exception lies behind a call (file 08 gives it): the callers' frames, abstract heap and state ahead of the call, the wish, the exception, the state -/
abbrev CXT := List Env → Hp → Shared → XK → Value → Shared → Prop

/-- the state at a call -/
structure Env0 (P : Program) (w : World) (K : PySem.W.Frag) (mg : Str → Option Value) (base : Heap) (A : Around) (outer : List Env) (s : Shared) (H : Hp) : Prop where
  frames : A.frames = some outer
  mod : Mod K mg base
  bs : ∀ b o, base.get? b = some o → s.heap.get? b = some o ∧ H b = none
  bsz : base.objs.size ≤ s.heap.objs.size
  funs : s.heap.FunFrames base outer
  frf : ∀ b ∈ frs outer, H b = none
  hok : HOk P w H s.heap
  bare : AllBare s.gens
/-- a call's end -/
def CE (outer : List Env) (P : Program) (w : World) (H : Hp) (s : Shared) (Q : VK) (u : Value) (s' : Shared) : Prop :=
  ∃ v H', s'.os = s.os ∧ AllBare s'.gens ∧ Un (frs outer) [] H H' s.heap s'.heap ∧ HOk P w H' s'.heap ∧ RelV v u ∧ Q v H'
def CR (CX : CXT) (outer : List Env) (P : Program) (w : World) (H : Hp) (s : Shared) (Q : VK) (E : XK) (r : Result) (s' : Shared) : Prop :=
  match r with
  | .ok (.ret u) => CE outer P w H s Q u s'
  | .ok _ => False
  | .error e => CX outer H s E e s'
structure FnOk (P : Program) (w : World) (K : PySem.W.Frag) (mg : Str → Option Value) (base : Heap) (CX : CXT) (k : Nat) (f : Addr) (fd : FuncData) (ps : List Str) (sp : Sp) : Prop where
  len : ∀ vs H Q E, sp vs H Q E → vs.length = ps.length
  run : ∀ (A : Around) (outer : List Env) (s : Shared) (H : Hp) (args : Args) (us : List Value) (vs : List V) (Q : VK) (E : XK), Room k A → Env0 P w K mg base A outer s H → BindsTo s fd args (ps.zip us) → Vals vs us → sp vs H Q E →
    codeAny (model P w) A (.call (.ref f) args) (CR CX outer P w H s Q E) s
theorem FnOk.mono {P : Program} {w : World} {K : PySem.W.Frag} {mg : Str → Option Value} {base : Heap} {CX : CXT} {j k : Nat} {f : Addr} {fd : FuncData} {ps : List Str} {sp : Sp} (F : FnOk P w K mg base CX j f fd ps sp) (h : j ≤ k) :
    FnOk P w K mg base CX k f fd ps sp := ⟨F.len, fun A outer s H args us vs Q E hr => F.run A outer s H args us vs Q E (hr.mono h)⟩
/-- a weaker promise -/
theorem FnOk.imp {P : Program} {w : World} {K : PySem.W.Frag} {mg : Str → Option Value} {base : Heap} {CX : CXT} {k : Nat} {f : Addr} {fd : FuncData} {ps : List Str} {sp sp' : Sp} (F : FnOk P w K mg base CX k f fd ps sp)
    (h : ∀ vs H Q E, sp' vs H Q E → sp vs H Q E) : FnOk P w K mg base CX k f fd ps sp' :=
  ⟨fun vs H Q E q => F.len vs H Q E (h _ _ _ _ q), fun A outer s H args us vs Q E hr he hb hv hs => F.run A outer s H args us vs Q E hr he hb hv (h _ _ _ _ hs)⟩

theorem Env0.make {P : Program} {w : World} {K : PySem.W.Frag} {mg : Str → Option Value} {base : Heap} {A : Around} {outer : List Env} {s : Shared} {H : Hp} (e : Env0 P w K mg base A outer s H) (C : Addr) (us : List Value) (kw : List (Str × Value)) :
    Env0 P w K mg base (A.under (.builtin "type.__call__" ⟨.ref C :: us, kw⟩)) outer s H := ⟨by first | exact e.frames | (simpa [Around.under, Code.envs, Code.isFrame, pushEnvs] using e.frames), e.mod, e.bs, e.bsz, e.funs, e.frf, e.hok, e.bare⟩
theorem Env0.in1 {P : Program} {w : World} {K : PySem.W.Frag} {mg : Str → Option Value} {base : Heap} {A : Around} {outer : List Env} {s : Shared} {H : Hp} (e : Env0 P w K mg base A outer s H) :
    Env0 P w K mg base A.in1 outer s H := ⟨e.frames, e.mod, e.bs, e.bsz, e.funs, e.frf, e.hok, e.bare⟩

section
variable {X : Cx} {pins : List (Addr × Obj)} {σ : St} {H : Hp} {s s' : Shared}
/-- from a body: what a callee wants -/
theorem Inv.env0 (I : Inv X pins σ H s) : Env0 X.prog X.w X.K X.mg X.base X.A X.stack s H :=
  ⟨I.ok.frames, I.ok.mod, I.bs, Nat.le_trans I.ok.bsz I.sz, I.stack, I.stkFree, I.hok, I.bare⟩
/-- behind a call -/
theorem Inv.after {Q : VK} {u : Value} (I : Inv X pins σ H s) (h : CE X.stack X.prog X.w H s Q u s') : EP X pins σ Q u s' := by
  obtain ⟨v, H', os, bare, un, hok, r, q⟩ := h
  obtain ⟨hh, g, d, t, os'⟩ := s'
  obtain rfl : os' = s.os := os
  exact ⟨v, H', I.call (h' := hh) (g' := g) (d' := d) (t' := t) (ch := []) un hok bare (fun b z => absurd z (by simp)), r, q⟩
end

/-! ### calls -/
/-- f(..): the written arguments, then the defaults dvs; E: what is wanted of an exception -/
def tCall (sp : Sp) (dvs : List V) (E : XK) (t : TA) : TE := fun σ H Q => t σ H fun vs H1 => sp (vs ++ dvs) H1 Q E
/-- o.m(..) of an instance of the class at C -/
def tMeth (C : Addr) (m : Str) (sp : Sp) (dvs : List V) (E : XK) (ta : TE) (t : TA) : TE := fun σ H Q => ta σ H fun x H1 => ∃ a dx fs, x = .ref a ∧ H1 a = some (.ins C dx fs) ∧ fs.lookup m = none ∧
  t σ H1 fun vs H2 => sp (x :: (vs ++ dvs)) H2 Q E
/-- C(..): a new instance and its dict, then __init__ -/
def tMake (C : Addr) (sp : Sp) (dvs : List V) (E : XK) (t : TA) : TE := fun σ H Q => t σ H fun vs H1 => ∀ x dx, H1 x = none → H1 dx = none → dx ≠ x →
  sp (.ref x :: (vs ++ dvs)) (upd (upd H1 dx (.own x)) x (.ins C dx [])) (fun v H2 => v = .non ∧ Q (.ref x) H2) E

/-- how the parameters are bound: us the positional arguments, kw the keywords' values by name, ds the defaults that fill up -/
def Binds (K : PySem.W.Frag) (fd : FuncData) (ps : List Str) (ds : List Value) : Prop :=
  ∀ (s : Shared) (us : List Value), K.In s.heap → (us ++ ds).length = ps.length → BindsTo s fd ⟨us, []⟩ (ps.zip (us ++ ds))
/-- every parameter is given -/
theorem Binds.all {K : PySem.W.Frag} {fd : FuncData} {ps : List Str} (h : ∀ us : List Value, us.length = ps.length → bindArgs fd ⟨us, []⟩ = pure (ps.zip us)) : Binds K fd ps [] := fun s us _ hl => by
  rw [List.append_nil] at hl ⊢
  exact .of_eq (h us hl)

/-- an exception of a callee reaches what this body wants of exceptions -/
def Passes (CX : CXT) (X : Cx) (E : XK) : Prop := ∀ (pins : List (Addr × Obj)) (σ : St) (H : Hp) (s : Shared) (e : Value) (s' : Shared), Inv X pins σ H s → CX X.stack H s E e s' → X.xe e s'

section
variable {X : Cx} {CX : CXT} {k : Nat} {f C : Addr} {fd : FuncData} {ps : List Str} {sp : Sp} {dvs : List V} {ds : List Value} {E : XK} {x m : Str} {p pos apos : Pos} {e o : Expr} {es : List Expr} {ta : TE} {t : TA}

/-- the callee runs -/
theorem run_fn {pins : List (Addr × Obj)} {σ : St} {H : Hp} {s : Shared} {Q : VK} {us : List Value} {vs : List V} (F : FnOk X.prog X.w X.K X.mg X.base CX k f fd ps sp) (hr : Room k X.A) (hb : Binds X.K fd ps ds) (hd : Vals dvs ds) (hx : Passes CX X E)
    (I : Inv X pins σ H s) (r : Vals vs us) (h : sp (vs ++ dvs) H Q E) : wpAny (model X.prog X.w) X.A (call (.ref f) us) (EP X pins σ Q) X.xe s := by
  have r2 : Vals (vs ++ dvs) (us ++ ds) := r.append hd
  have hl : (us ++ ds).length = ps.length := by rw [← r2.length]; exact F.len _ _ _ _ h
  refine wpAny_call (codeAny_mono (F.run X.A X.stack s H ⟨us, []⟩ (us ++ ds) (vs ++ dvs) Q E hr I.env0 (hb s us I.kIn hl) r2 h) fun r s' hq => ?_)
  cases r with
  | error e => exact hx pins σ H s e s' I hq
  | ok fl =>
    cases fl with
    | ret u => exact I.after hq
    | next => exact False.elim hq
    | brk => exact False.elim hq
    | cont => exact False.elim hq

theorem pe_call (F : FnOk X.prog X.w X.K X.mg X.base CX k f fd ps sp) (hr : Room k X.A) (hg : Gl X x) (hm : X.mg x = some (.ref f)) (hk : PySem.W.keepIn X.K (.ref f) = true) (hb : Binds X.K fd ps ds) (hd : Vals dvs ds) (hx : Passes CX X E)
    (ha : PA X (e :: es) t) (hdb : (x == ("__debug__" : Str)) = false := by decide) (he : starEach (e :: es) X.env = (false, eval e X.env) :: starEach es X.env := by rfl) (hpl : (backTo pos (starEach es X.env)).any (·.1) = false := by rfl) :
    PE X (.Call (.Name x p) (e :: es) [] pos) (tCall sp dvs E t) := by
  refine .mk fun pins s σ H Q I h => ?_
  refine wpAny_Call_Name_kw (ld_glob I hg hm ?_ hdb)
  refine PySem.W.callWith_K (h₀ := X.base) I.ok.mod.kin hk (thn (ha pos pins s σ H _ I h) fun us s1 ⟨vs, H1, I1, r, q⟩ => ⟨I1.kIn, ?_⟩) he hpl
  exact run_fn F hr hb hd hx I1 r q
/-- o.m(e, ..) -/
theorem pe_meth {pl : Sem Bool} (he : PE X o ta) (c : Cls X.K C) (hm : Meth X.K C m f) (F : FnOk X.prog X.w X.K X.mg X.base CX k f fd ps sp) (hr : Room k X.A) (hb : Binds X.K fd ps ds) (hd : Vals dvs ds) (hx : Passes CX X E) (ha : PA X (e :: es) t)
    (hst : starEach (e :: es) X.env = (false, eval e X.env) :: starEach es X.env := by rfl) (hpl : (backTo pos (starEach es X.env)).any (·.1) = false := by rfl)
    (ht : eval (.Call (.Attribute o m apos) (e :: es) [] pos) X.env = (do
      let ov ← eval o X.env
      standAt apos.atName
      let (f, first) ← holding [ov] (getMethod ov m pl)
      callWith pos f first (backTo pos (starEach (e :: es) X.env)) (backToKw pos (keywordEach [] X.env))) := by rfl) :
    PE X (.Call (.Attribute o m apos) (e :: es) [] pos) (tMeth C m sp dvs E ta t) := by
  refine .mk fun pins s σ H Q I h => ?_
  refine PySem.W.methodCall_KW (pl := pl) (thn (he pins s σ H _ I h) fun u s1 ⟨x, H1, I1, rx, a, dx, fs, ex, ea, l, q⟩ => ?_) ht
  subst ex
  obtain rfl : u = Value.ref a := rx
  refine getmeth_ok I1 ea c hm l ?_
  refine PySem.W.callWith_K (first := [.ref a]) (h₀ := X.base) I.ok.mod.kin hm.kp (thn (ha pos pins s1 σ H1 _ I1 q) fun us s2 ⟨vs, H2, I2, r, q2⟩ => ⟨I2.kIn, ?_⟩) hst hpl
  exact run_fn (us := .ref a :: us) (vs := .ref a :: vs) F hr hb hd hx I2 (.cons rfl r) q2
/-- o.m() -/
theorem pe_meth0 {pl : Sem Bool} (he : PE X o ta) (c : Cls X.K C) (hm : Meth X.K C m f) (F : FnOk X.prog X.w X.K X.mg X.base CX k f fd ps sp) (hr : Room k X.A) (hb : Binds X.K fd ps ds) (hd : Vals dvs ds) (hx : Passes CX X E)
    (ht : eval (.Call (.Attribute o m apos) [] [] pos) X.env = (do
      let ov ← eval o X.env
      standAt apos.atName
      let (f, first) ← holding [ov] (getMethod ov m pl)
      callWith pos f first (backTo pos (starEach [] X.env)) (backToKw pos (keywordEach [] X.env))) := by rfl) :
    PE X (.Call (.Attribute o m apos) [] [] pos) (tMeth C m sp dvs E ta tNil) := by
  refine .mk fun pins s σ H Q I h => ?_
  refine PySem.W.methodCall_KW (pl := pl) (thn (he pins s σ H _ I h) fun u s1 ⟨x, H1, I1, rx, a, dx, fs, ex, ea, l, q⟩ => ?_) ht
  subst ex
  obtain rfl : u = Value.ref a := rx
  refine getmeth_ok I1 ea c hm l ?_
  exact PySem.W.callWith_K0 (first := [.ref a]) I1.kIn hm.kp (run_fn (us := [.ref a]) (vs := [.ref a]) F hr hb hd hx I1 (.cons rfl .nil) q)

/-- what a class must have to be made -/
structure Mk (K : PySem.W.Frag) (C f : Addr) : Prop where
  makes : PySem.W.makesIn K C = true
  init : PySem.W.findIn K (.ref C) "__init__" = some (some (.ref f))
  fn : PySem.W.isFn K (.ref f) = true
  kp : PySem.W.keepIn K (.ref C) = true

theorem run_make {pins : List (Addr × Obj)} {σ : St} {H : Hp} {s : Shared} {Q : VK} {us : List Value} {vs : List V} (M : Mk X.K C f) (F : FnOk X.prog X.w X.K X.mg X.base CX k f fd ps sp) (hr : Room (k + 1) X.A) (hb : Binds X.K fd ps ds) (hd : Vals dvs ds)
    (hx : Passes CX X E) (I : Inv X pins σ H s) (r : Vals vs us)
    (h : ∀ x dx, H x = none → H dx = none → dx ≠ x → sp (.ref x :: (vs ++ dvs)) (upd (upd H dx (.own x)) x (.ins C dx [])) (fun v H2 => v = .non ∧ Q (.ref x) H2) E) :
    wpAny (model X.prog X.w) X.A (call (.ref C) us) (EP X pins σ Q) X.xe s := by
  have hq := h (s.heap.objs.size + 1) s.heap.objs.size (I.hok.fresh (Nat.le_succ _)) (I.hok.fresh (Nat.le_refl _)) (Nat.ne_of_lt (Nat.lt_succ_self _))
  have I2 := Inv.made (C := C) I
  have r2 : Vals (V.ref (s.heap.objs.size + 1) :: (vs ++ dvs)) (Value.ref (s.heap.objs.size + 1) :: (us ++ ds)) := .cons rfl (r.append hd)
  have hl : (Value.ref (s.heap.objs.size + 1) :: us ++ ds).length = ps.length := by
    have e := r2.length
    rw [F.len _ _ _ _ hq] at e
    exact e.symm
  refine wpAny_call (make_map (f := f) I.kIn M.makes M.init (beq_iff_eq.mp M.fn) (codeAny_mono (F.run _ X.stack _ _ ⟨Value.ref (s.heap.objs.size + 1) :: us, []⟩ (Value.ref (s.heap.objs.size + 1) :: (us ++ ds)) _ _ E (hr.make C us [])
    (I2.env0.make C us []) (hb _ (Value.ref (s.heap.objs.size + 1) :: us) I2.kIn hl) r2 hq) fun r s' hq' => ?_))
  cases r with
  | error e => exact hx pins σ _ _ e s' I2 hq'
  | ok fl =>
    cases fl with
    | ret u =>
      obtain ⟨v, H', I3, rv, ev, q3⟩ := I2.after hq'
      subst ev
      exact ⟨rv, ⟨V.ref (s.heap.objs.size + 1), H', I3, rfl, q3⟩⟩
    | next => exact False.elim hq'
    | brk => exact False.elim hq'
    | cont => exact False.elim hq'
theorem pe_make (M : Mk X.K C f) (F : FnOk X.prog X.w X.K X.mg X.base CX k f fd ps sp) (hr : Room (k + 1) X.A) (hg : Gl X x) (hm : X.mg x = some (.ref C)) (hb : Binds X.K fd ps ds) (hd : Vals dvs ds) (hx : Passes CX X E)
    (ha : PA X (e :: es) t) (hdb : (x == ("__debug__" : Str)) = false := by decide) (he : starEach (e :: es) X.env = (false, eval e X.env) :: starEach es X.env := by rfl) (hpl : (backTo pos (starEach es X.env)).any (·.1) = false := by rfl) :
    PE X (.Call (.Name x p) (e :: es) [] pos) (tMake C sp dvs E t) := by
  refine .mk fun pins s σ H Q I h => ?_
  refine wpAny_Call_Name_kw (ld_glob I hg hm ?_ hdb)
  refine PySem.W.callWith_K (h₀ := X.base) I.ok.mod.kin M.kp (thn (ha pos pins s σ H _ I h) fun us s1 ⟨vs, H1, I1, r, q⟩ => ⟨I1.kIn, ?_⟩) he hpl
  exact run_make M F hr hb hd hx I1 r q
theorem pe_make0 (M : Mk X.K C f) (F : FnOk X.prog X.w X.K X.mg X.base CX k f fd ps sp) (hr : Room (k + 1) X.A) (hg : Gl X x) (hm : X.mg x = some (.ref C)) (hb : Binds X.K fd ps ds) (hd : Vals dvs ds) (hx : Passes CX X E)
    (hdb : (x == ("__debug__" : Str)) = false := by decide) : PE X (.Call (.Name x p) [] [] pos) (tMake C sp dvs E tNil) := by
  refine .mk fun pins s σ H Q I h => ?_
  refine wpAny_Call_Name_kw (ld_glob I hg hm ?_ hdb)
  exact PySem.W.callWith_K0 I.kIn M.kp (run_make (us := []) M F hr hb hd hx I .nil h)
end

/-! ### keywords -/
section
variable {X : Cx} {CX : CXT} {k : Nat} {f C : Addr} {fd : FuncData} {ps ks : List Str} {sp : Sp} {E : XK} {x m : Str} {p pos apos kpos : Pos} {e o : Expr} {es : List Expr} {kws : List Keyword} {te ta : TE} {t tk : TA} {nm : Option Str}
/-- how a call with keywords binds: g puts the positional values us and the keywords' values ws (names ks) in the parameters' order, defaults among them -/
structure KBinds (K : PySem.W.Frag) (fd : FuncData) (ps ks : List Str) (g : List Value → List Value → List Value) (gV : List V → List V → List V) : Prop where
  to : ∀ (s : Shared) (us ws : List Value), K.In s.heap → (g us ws).length = ps.length → BindsTo s fd ⟨us, ks.zip ws⟩ (ps.zip (g us ws))
  rel : ∀ {vs : List V} {us : List Value} {zs : List V} {ws : List Value}, Vals vs us → Vals zs ws → Vals (gV vs zs) (g us ws)
variable {g : List Value → List Value → List Value} {gV : List V → List V → List V}
end

/-! ### a def's body keeps its promise -/
/-- names: the parameters first -/
structure FnScope (N P : List Str) (sc : Scope) : Prop where
  kind : sc.kind = .function
  co : sc.isCoroutine = false
  gen : sc.isGenerator = false
  nd : N.Nodup
  pre : N.take P.length = P
  par : ∀ x ∈ P, sc.names.lookup x = some .local ∨ sc.names.lookup x = some .cell
  nofree : ∀ y ∈ sc.names, y.2 ≠ .free

theorem bindL_out {kindOf : Str → Option NameKind} {x : Str} : ∀ {binds : List (Str × Value)} {m : Str → Option Value}, (∀ v, (x, v) ∉ binds) → bindL kindOf binds m x = m x
  | [], _, _ => rfl
  | (n, v) :: r, m, h => by
    unfold bindL
    rw [bindL_out fun w hw => h w (List.mem_cons_of_mem _ hw)]
    split
    · have : x ≠ n := by rintro rfl; exact h v List.mem_cons_self
      simp [this]
    · rfl
theorem bindC_out {kindOf : Str → Option NameKind} {x : Str} : ∀ {binds : List (Str × Value)} {m : Str → Option Value}, (∀ v, (x, v) ∉ binds) → bindC kindOf binds m x = m x
  | [], _, _ => rfl
  | (n, v) :: r, m, h => by
    unfold bindC
    rw [bindC_out fun w hw => h w (List.mem_cons_of_mem _ hw)]
    split
    · rfl
    · have : x ≠ n := by rintro rfl; exact h v List.mem_cons_self
      simp [this]
theorem bindL_get {kindOf : Str → Option NameKind} {x : Str} {v : Value} : ∀ {P : List Str} {vs : List Value} {i : Nat} {m : Str → Option Value}, P.Nodup → P[i]? = some x → vs[i]? = some v → kindOf x = some .local →
    bindL kindOf (P.zip vs) m x = some v
  | [], _, _, _, _, h, _, _ => by simp at h
  | _ :: _, [], _, _, _, _, h, _ => by simp at h
  | p :: P, w :: vs, 0, m, nd, h1, h2, hk => by
    simp at h1 h2; subst h1; subst h2
    show bindL kindOf ((p, w) :: P.zip vs) m p = _
    unfold bindL
    rw [bindL_out fun v hv => (List.nodup_cons.mp nd).1 (List.of_mem_zip hv).1, if_pos hk]
    simp
  | p :: P, w :: vs, i + 1, m, nd, h1, h2, hk => by
    show bindL kindOf ((p, w) :: P.zip vs) m x = _
    unfold bindL
    exact bindL_get (i := i) (List.nodup_cons.mp nd).2 (by simpa using h1) (by simpa using h2) hk
theorem bindC_get {kindOf : Str → Option NameKind} {x : Str} {v : Value} : ∀ {P : List Str} {vs : List Value} {i : Nat} {m : Str → Option Value}, P.Nodup → P[i]? = some x → vs[i]? = some v → kindOf x ≠ some .local →
    bindC kindOf (P.zip vs) m x = some v
  | [], _, _, _, _, h, _, _ => by simp at h
  | _ :: _, [], _, _, _, _, h, _ => by simp at h
  | p :: P, w :: vs, 0, m, nd, h1, h2, hk => by
    simp at h1 h2; subst h1; subst h2
    show bindC kindOf ((p, w) :: P.zip vs) m p = _
    unfold bindC
    rw [bindC_out fun v hv => (List.nodup_cons.mp nd).1 (List.of_mem_zip hv).1, if_neg hk]
    simp
  | p :: P, w :: vs, i + 1, m, nd, h1, h2, hk => by
    show bindC kindOf ((p, w) :: P.zip vs) m x = _
    unfold bindC
    exact bindC_get (i := i) (List.nodup_cons.mp nd).2 (by simpa using h1) (by simpa using h2) hk

/-- the names' values at the entry -/
def start (N : List Str) (vs : List V) : St := vs.map some ++ List.replicate (N.length - vs.length) none

/-- the context of a def's body, at its entry; an exception leaves the frame, then lies as CX says -/
def cxOf (CX : CXT) (P : Program) (w : World) (K : PySem.W.Frag) (mg : Str → Option Value) (base : Heap) (N : List Str) (qual : Str) (scope : Scope) (f : Addr) (cd : Value) (A : Around) (outer : List Env) (s : Shared) (H : Hp) (E : XK) : Cx where
  prog := P
  w := w
  K := K
  mg := mg
  base := base
  A := A.deeper (envOfC qual scope s.heap.objs.size f cd)
  N := N
  s₀ := s
  H₀ := H
  env := envOfC qual scope s.heap.objs.size f cd
  outer := outer
  stack := envOfC qual scope s.heap.objs.size f cd :: outer
  ex := []
  calm := true
  fn := fun _ => true
  pn := []
  xe := fun e s' => wpAny (model P w) (A.deeper (envOfC qual scope s.heap.objs.size f cd)) (leaving (envOfC qual scope s.heap.objs.size f cd) e) (fun _ s'' => CX outer H s E e s'') (fun e' s'' => CX outer H s E e' s'') s'

theorem cell_has {sc : Scope} {n : Nat} {x : Str} (h : sc.names.lookup x = some .cell) : ∃ c, (cellsFrom n sc.names []).lookup x = some c := by
  have q := PySem.W.cellsFrom_some sc.names n [] (.inl h)
  exact Option.isSome_iff_exists.mp q

theorem inv_start {CX : CXT} {P : Program} {w : World} {K : PySem.W.Frag} {mg : Str → Option Value} {base : Heap} {N ps : List Str} {qual : Str} {scope : Scope} {f : Addr} {cd : Value} {A : Around} {outer : List Env} {s s1 : Shared} {H : Hp} {E : XK} {us : List Value} {vs : List V}
    (S : FnScope N ps scope) (hd : A.handled = none) (e0 : Env0 P w K mg base A outer s H) (hl : vs.length = ps.length) (r : Vals vs us)
    (x : InCallC s s.heap.objs.size (bindL (envOfC qual scope s.heap.objs.size f cd).kindOf (ps.zip us) fun _ => none) (cellsFrom (s.heap.objs.size + 1) scope.names []) (bindC (envOfC qual scope s.heap.objs.size f cd).kindOf (ps.zip us) fun _ => none) s1) :
    Inv (cxOf CX P w K mg base N qual scope f cd A outer s H E) [] (start N vs) H s1 := by
  have hpl : ps.length ≤ N.length := by have := congrArg List.length S.pre; rw [List.length_take] at this; omega
  obtain ⟨h1, tk, rfl, hk⟩ := x.done
  have noA : ∀ b : Addr, b ∉ (cxOf CX P w K mg base N qual scope f cd A outer s H E).ex := fun b z => absurd (show b ∈ ([] : List Addr) from z) (by simp)
  refine ⟨⟨e0.mod, S.kind, rfl, rfl, Nat.le_refl _, fun y z c h1 h2 => ?_, fun y hy => ?_, fun y c _ h => ?_, fun _ => hd, Around.frames_deeper e0.frames, .inr ⟨rfl, rfl⟩, fun b z => absurd z (noA b), e0.bs, e0.bsz, fun b _ _ => noA b, fun b z => absurd z (noA b), e0.funs, e0.frf⟩,
    rfl, e0.bare, Un.kept hk, ⟨_, x.toInCall.ns, fun i y v h1 h2 h3 => ?_⟩, fun y c h => ⟨_, x.cell y c h⟩, e0.hok.fresh (Nat.le_refl _), fun y c h => ?_, fun p hp => absurd (show p ∈ ([] : List (Addr × Obj)) from hp) (by simp), e0.hok.kept hk, ?_⟩
  · exact name_of_addr x.apart (PySem.mem_of_lookup h1) (PySem.mem_of_lookup h2)
  · have hy : scope.names.lookup y = some .cell ∨ scope.names.lookup y = some .free := hy
    rcases hy with hy | hy
    · exact cell_has hy
    · exact absurd rfl (S.nofree _ (PySem.mem_of_lookup hy))
  · exact Nat.le_of_lt (x.above y c (PySem.mem_of_lookup h))
  · have hi : i < vs.length := by
      unfold start at h2
      by_cases hi : i < vs.length
      · exact hi
      · rw [List.getElem?_append_right (by simpa using hi)] at h2
        rw [List.getElem?_replicate] at h2
        split at h2 <;> cases h2
    have ha : vs[i]? = some v := by
      unfold start at h2
      rw [List.getElem?_append_left (by simpa using hi), List.getElem?_map] at h2
      cases e : vs[i]? with
      | none => rw [e] at h2; cases h2
      | some a => rw [e] at h2; cases h2; rfl
    obtain ⟨u, hu, rv⟩ := r.get ha
    have hp : ps[i]? = some y := by
      rw [← S.pre, List.getElem?_take_of_lt (by omega)]; exact h1
    have ndP : ps.Nodup := by rw [← S.pre]; exact S.nd.sublist (List.take_sublist _ _)
    refine ⟨u, rv, ?_⟩
    rcases S.par y (List.mem_of_getElem? hp) with k | k
    · exact .inl ⟨k, bindL_get ndP hp hu k⟩
    · obtain ⟨c, e⟩ := cell_has (n := s.heap.objs.size + 1) k
      refine .inr ⟨.inl k, c, e, ?_⟩
      have q := x.cell y c e
      rw [bindC_get ndP hp hu (by show scope.names.lookup y ≠ _; rw [k]; decide)] at q
      exact q
  · exact e0.hok.fresh (Nat.le_of_lt (x.above y c (PySem.mem_of_lookup h)))
  · unfold start
    show _ = N.length
    rw [List.length_append, List.length_map, List.length_replicate]
    omega

/-- THE RULE: a def (or a method) of the text, by its body. The body's reading t is chosen for each entry; it is run at the parameters' values -/
theorem fn_of {CX : CXT} {P : Program} {w : World} {K : PySem.W.Frag} {mg : Str → Option Value} {base : Heap} {k : Nat} {f : Addr} {name qual : Str} {params : Arguments} {body : List Stmt} {scope : Scope} {dV kV doc pm cdv ct oc : Value} {an od : Option Addr}
    {osl : Array (Option Value)} {N ps : List Str} {sp : Sp} (lk : K.lookup f = some ⟨oc, od, .func (PySem.W.fnOf name qual params body scope dV kV doc pm an cdv ct), osl⟩) (hcd : PySem.W.codeIn K cdv qual = true) (S : FnScope N ps scope)
    (len : ∀ vs H Q E, sp vs H Q E → vs.length = ps.length)
    (hbody : ∀ (A : Around) (outer : List Env) (s : Shared) (H : Hp) (vs : List V) (Q : VK) (E : XK), Room k (A.deeper (envOfC qual scope s.heap.objs.size f cdv)) → sp vs H Q E →
      ∃ t, PSs (cxOf CX P w K mg base N qual scope f cdv A outer s H E) body t ∧ t { nx := fun _ H' => Q .non H', rt := Q } (start N vs) H) :
    FnOk P w K mg base CX (k + 1) f (PySem.W.fnOf name qual params body scope dV kV doc pm an cdv ct) ps sp := by
  refine ⟨len, fun A outer s H args us vs Q E hr e0 hb r hsp => ?_⟩
  have hl := len _ _ _ _ hsp
  have KX : K.In s.heap := e0.mod.kin.keeps fun b o e => (e0.bs b o e).1
  have lim : s.heap.NoLimit := e0.mod.nolimit.keeps fun b o e => (e0.bs b o e).1
  have hkind : ∀ y ∈ ps.zip us, scope.names.lookup y.1 = some .local ∨ (scope.names.lookup y.1 = some .cell ∧ ((cellsFrom (s.heap.objs.size + 1) scope.names []).lookup y.1).isSome = true) := fun ⟨n, v⟩ hy => by
    rcases S.par n (List.of_mem_zip hy).1 with q | q
    · exact .inl q
    · exact .inr ⟨q, PySem.W.cellsFrom_some _ _ _ (.inl q)⟩
  refine codeAny_call_function hr.depth (KX _ _ lk) rfl S.co S.gen rfl (PySem.W.codeRec_of KX hcd) (hb _ _ _ _ ?_)
  refine wpAny_newFunctionEnv_cells S.kind hkind fun env he s1 x => ?_
  subst he
  refine ⟨lim.keeps x.toInCall.keep, codeAny_func ?_⟩
  obtain ⟨t, ht, hq⟩ := hbody A outer s H vs Q E (hr.deeper _) hsp
  have I : Inv (cxOf CX P w K mg base N qual scope f cdv A outer s H E) [] (start N vs) H s1 := inv_start S hr.hd e0 hl r x
  refine wpAny_mono (ht [] s1 (start N vs) H _ I hq) (fun fl s' hs => ?_) fun e s' hs => hs
  have fin : ∀ {σ' : St} {H' : Hp} {v : V} {u : Value}, Inv (cxOf CX P w K mg base N qual scope f cdv A outer s H E) [] σ' H' s' → RelV v u → Q v H' → CE outer P w H s Q u s' :=
    fun {σ' H' v u} J rv q => ⟨v, H', J.os, J.bare, J.base, J.hok, rv, q⟩
  cases fl with
  | ret u =>
    obtain ⟨v, σ', H', J, rv, q⟩ := hs
    exact fin J rv q
  | next =>
    obtain ⟨σ', H', J, q⟩ := hs
    exact fin (v := V.non) (u := Value.none) J rfl q
  | brk =>
    obtain ⟨_, _, _, q⟩ := hs
    exact False.elim q
  | cont =>
    obtain ⟨_, _, _, q⟩ := hs
    exact False.elim q
end L2

namespace L2
open PySem PySem.Spec PyProof.Rows
section
variable {X : Cx} {x : Str} {p pos : Pos} {e : Expr} {es : List Expr} {t : TA} {id T : String} {r : List V → Hp → VK → Prop}

def tCB (r : List V → Hp → VK → Prop) (t : TA) : TE := fun σ H Q => t σ H fun vs H1 => r vs H1 Q
/-- f(e, ..), f a built-in function -/
theorem pe_callB (hc : CallR X (.builtin id) r) (hg : Gl X x) (hm : X.mg x = none) (hv : bootBuiltins x = some (.builtin id)) (ha : PA X (e :: es) t) (hn : x ≠ "__name__" := by decide) (hdb : (x == ("__debug__" : Str)) = false := by decide)
    (he : starEach (e :: es) X.env = (false, eval e X.env) :: starEach es X.env := by rfl) (hpl : (backTo pos (starEach es X.env)).any (·.1) = false := by rfl) : PE X (.Call (.Name x p) (e :: es) [] pos) (tCB r t) := by
  refine .mk fun pins s σ H Q I h => ?_
  refine wpAny_Call_Name_kw (ld_blt I hg hm hv ?_ hn hdb)
  exact PyProof.Rows.callWith_builtin1 (thn (ha pos pins s σ H _ I h) fun us s1 ⟨vs, H1, I1, r1, q1⟩ => hc pins s1 σ H1 vs us Q I1 r1 q1) he hpl
/-- T(e, ..), T a built-in type -/
theorem pe_callTy (hc : CallR X (.type T) r) (hg : Gl X x) (hm : X.mg x = none) (hv : bootBuiltins x = some (.type T)) (ha : PA X (e :: es) t) (hn : x ≠ "__name__" := by decide) (hdb : (x == ("__debug__" : Str)) = false := by decide)
    (he : starEach (e :: es) X.env = (false, eval e X.env) :: starEach es X.env := by rfl) (hpl : (backTo pos (starEach es X.env)).any (·.1) = false := by rfl) : PE X (.Call (.Name x p) (e :: es) [] pos) (tCB r t) := by
  refine .mk fun pins s σ H Q I h => ?_
  refine wpAny_Call_Name_kw (ld_blt I hg hm hv ?_ hn hdb)
  exact PyProof.Rows.callWith_type1 (thn (ha pos pins s σ H _ I h) fun us s1 ⟨vs, H1, I1, r1, q1⟩ => hc pins s1 σ H1 vs us Q I1 r1 q1) he hpl
end
end L2

namespace HT
open PySem PyProof.Rows

section
open PySem.SeqAt
open PySem.AutoSeq1 (wpAny_loadPart')
open PySem.MeetsSeq PySem.MeetsSeq2 PySem.MeetsSeq3

end

section
variable {prog : Program} {w : World} {A : Around} {E : Value → Shared → Prop} {s : Shared}

/-! ### t[a:b], not the whole -/
/-- a slice's bound as a place among n (d where it is left out) -/
def sIx (n d : Nat) : Option Int → Nat
  | none => d
  | some v => if v < 0 then (v + (n : Int)).toNat else min v.toNat n
theorem sIx_none (n d : Nat) : sIx n d none = d := rfl
theorem sIx_nat (n d k : Nat) : sIx n d (some (k : Int)) = min k n := by
  show (if (k : Int) < 0 then ((k : Int) + (n : Int)).toNat else min (k : Int).toNat n) = min k n
  rw [if_neg (by omega), Int.toNat_natCast]
theorem sIx_le (n d : Nat) (hd : d ≤ n) (o : Option Int) : sIx n d o ≤ n := by
  cases o with
  | none => exact hd
  | some v =>
    show (if v < 0 then (v + (n : Int)).toNat else min v.toNat n) ≤ n
    by_cases hv : v < 0
    · rw [if_pos hv]; omega
    · rw [if_neg hv]; exact Nat.min_le_right _ _
theorem clip_eq (v : Int) (n d : Nat) : (if v < 0 then max (v + (n : Int)) 0 else min v (n : Int)) = ((sIx n d (some v) : Nat) : Int) := by
  show (if v < 0 then max (v + (n : Int)) 0 else min v (n : Int)) = (((if v < 0 then (v + (n : Int)).toNat else min v.toNat n) : Nat) : Int)
  by_cases hv : v < 0
  · simp only [if_pos hv]; omega
  · simp only [if_neg hv]; omega
theorem adjust_gen (lo hi : Option Int) (n : Nat) : Builtin.Slice.sliceAdjust lo hi 1 (n : Int) = (((sIx n 0 lo : Nat) : Int), ((sIx n n hi : Nat) : Int)) := by
  have h1 : ¬ ((1 : Int) < 0) := by omega
  unfold Builtin.Slice.sliceAdjust
  simp only [h1, if_false]
  refine Prod.ext ?_ ?_
  · cases lo with
    | none => rfl
    | some v => exact clip_eq v n 0
  · cases hi with
    | none => rfl
    | some v => exact clip_eq v n n
theorem places_gen (i j : Nat) : Builtin.Slice.slicePlaces (i : Int) (j : Int) 1 = j - i := by
  unfold Builtin.Slice.slicePlaces
  have h1 : (1 : Int) > 0 := by omega
  simp only [h1, if_true, Int.ediv_one]
  split <;> omega
theorem slicePart_ {v : Value} {o : Option Int} {Q : Option Int → Shared → Prop} (p : IsPart v o) (h : Q o s) : wpAny (model prog w) A (Builtin.Slice.slicePartIndex v) Q E s := by
  cases p with
  | none => exact slicePart_none h
  | int i t => exact slicePart_int h
theorem sliceApplied_gen {sl : Addr} {vl vu : Value} {lo hi : Option Int} {n : Nat} {Q : Int × Int × Nat → Shared → Prop} (hs : s.heap.IsSliceOf sl vl vu .none) (pl : IsPart vl lo) (pu : IsPart vu hi)
    (h : Q (((sIx n 0 lo : Nat) : Int), 1, sIx n n hi - sIx n 0 lo) s) : wpAny (model prog w) A (Builtin.Slice.sliceApplied (.ref sl) (pure (n : Int))) Q E s := by
  obtain ⟨os, hos, hcs, hds⟩ := id hs
  unfold Builtin.Slice.sliceApplied Builtin.Slice.sliceFields
  refine wpAny_bind (wpAny_bind (wpAny_field hos hds (x := vl) rfl (wpAny_bind (wpAny_field hos hds (x := vu) rfl (wpAny_bind (wpAny_field hos hds (x := .none) rfl (wpAny_pure ?_)))))))
  refine wpAny_bind (slicePart_none ?_)
  show wpAny _ _ (if ((1 : Int) == 0) = true then _ else _) _ _ s
  rw [if_neg (by decide)]
  refine wpAny_bind (slicePart_ pl (wpAny_bind (slicePart_ pu (wpAny_bind (wpAny_pure ?_)))))
  show wpAny _ _ (match Builtin.Slice.sliceAdjust lo hi 1 (n : Int) with | (lo, hi) => pure (lo, (1 : Int), Builtin.Slice.slicePlaces lo hi 1)) _ _ s
  rw [adjust_gen lo hi n]
  show wpAny _ _ (pure (((sIx n 0 lo : Nat) : Int), (1 : Int), Builtin.Slice.slicePlaces ((sIx n 0 lo : Nat) : Int) ((sIx n n hi : Nat) : Int) 1)) _ _ s
  rw [places_gen]
  exact wpAny_pure h
theorem pick_gen (xs : Array Value) (i k : Nat) : ((List.range k).filterMap fun (m : Nat) => xs[((i : Int) + (m : Int) * 1).toNat]?).toArray = ((xs.toList.drop i).take k).toArray := by
  have e : (fun (m : Nat) => xs[((i : Int) + (m : Int) * 1).toNat]?) = fun m => xs[i + m]? := by
    funext m
    have : ((i : Int) + (m : Int) * 1).toNat = i + m := by omega
    rw [this]
  rw [e]
  have := pick_run xs i k
  rw [List.filterMap_map] at this
  have e2 : ((fun x => xs[x]?) ∘ fun x => i + x) = fun m => xs[i + m]? := rfl
  rw [e2] at this
  rw [this]

theorem getItem_tuple_cut {t sl : Addr} {items : Array Value} {vl vu : Value} {lo hi : Option Int} {Q : Value → Shared → Prop} (ht : IsTup s.heap t items) (hs : s.heap.IsSliceOf sl vl vu .none) (pl : IsPart vl lo) (pu : IsPart vu hi)
    (hw : ¬ (sIx items.size 0 lo = 0 ∧ sIx items.size items.size hi = items.size))
    (h : Q (.ref s.heap.objs.size) { s with heap := s.heap.push { cls := .type "tuple", data := .seq ((items.toList.drop (sIx items.size 0 lo)).take (sIx items.size items.size hi - sIx items.size 0 lo)).toArray } })
    (hsz : items.size ≤ sizeLine) : wpAny (model prog w) A (getItem (.ref t) (.ref sl)) Q E s := by
  have htake : sizeOk (.seq ((items.toList.drop (sIx items.size 0 lo)).take (sIx items.size items.size hi - sIx items.size 0 lo)).toArray) := by
    show ((items.toList.drop (sIx items.size 0 lo)).take (sIx items.size items.size hi - sIx items.size 0 lo)).toArray.size ≤ sizeLine
    rw [List.size_toArray, List.length_take, List.length_drop, Array.length_toList]
    omega
  have hj : sIx items.size items.size hi ≤ items.size := sIx_le _ _ (Nat.le_refl _) hi
  obtain ⟨os, hos, hcs, hds⟩ := id hs
  have hTs : s.TypeIs (.ref sl) "slice" := ⟨os, hos, hcs⟩
  unfold getItem
  try with_reducible refine wpAny_holding ?_
  first | refine wpAny_bind (wpAny_pure ?_) | skip
  refine wpAny_bind (wpAny_sequenceKey ht.typeIs (by decide) ?_)
  refine wpAny_bind (wpAny_callSpecial?_slot (name := Str.ofString "__getitem__") ht.typeIs PyProof.Rows.slot_tuple_getitem
    (wpAny_call_entry PyProof.Rows.slot_tuple_getitem ht.typeIs entry_tuple_getitem ?_ (args_tuple_getitem _ _)))
  show wpAny _ _ (Builtin.Tuple.tupleItemsOf (.ref t) >>= _) _ _ s
  refine wpAny_bind (tupleItemsOf_ ht ?_)
  refine wpAny_bind (wpAny_typeOf hTs ?_)
  rw [if_pos (by decide)]
  refine wpAny_bind (sliceApplied_gen hs pl pu ?_)
  have hno : ¬ ((((sIx items.size 0 lo : Nat) : Int) == 0 && (1 : Int) == 1 && (sIx items.size items.size hi - sIx items.size 0 lo) == items.size) = true) := by
    intro q
    rw [Bool.and_eq_true, Bool.and_eq_true] at q
    have q1 : ((sIx items.size 0 lo : Nat) : Int) = 0 := eq_of_beq q.1.1
    have q2 : sIx items.size items.size hi - sIx items.size 0 lo = items.size := eq_of_beq q.2
    exact hw ⟨by omega, by omega⟩
  show wpAny _ _ (if (((sIx items.size 0 lo : Nat) : Int) == 0 && (1 : Int) == 1 && (sIx items.size items.size hi - sIx items.size 0 lo) == items.size) = true then _ else _) _ _ s
  rw [if_neg hno, pick_gen]
  first
    | exact wpAny_bind (m := Builtin.Tuple.tupleExact _) (wpAny_newObj_type (wpAny_pure ⟨_, rfl, wpAny_pure h⟩) htake)
    | exact wpAny_bind (m := Builtin.Tuple.tupleExact _) (wpAny_newObj_type (wpAny_bind (wpAny_pure (wpAny_pure ⟨_, rfl, wpAny_pure h⟩))) htake)
    | exact wpAny_bind (wpAny_bind (m := Builtin.Tuple.tupleExact _) (wpAny_newObj_type (wpAny_pure (wpAny_pure ⟨_, rfl, wpAny_pure h⟩)) htake))
    | exact wpAny_bind (wpAny_bind (m := Builtin.Tuple.tupleExact _) (wpAny_newObj_type (wpAny_pure ⟨_, rfl, wpAny_pure h⟩) htake))
end
end HT

namespace L2
open PySem PySem.Spec PyProof.Rows

/-! ### the parts of a slice -/
abbrev TO := St → Hp → (Option Int → Hp → Prop) → Prop
/-- a slice's part (left out, or an int) -/
def PO (X : Cx) (e : Option Expr) (t : TO) : Prop :=
  ∀ (pins : List (Addr × Obj)) (s : Shared) (σ : St) (H : Hp) (Q : Option Int → Hp → Prop), Inv X pins σ H s → t σ H Q →
    wpAny (model X.prog X.w) X.A (evalPart e X.env) (fun u s' => ∃ o H', Inv X pins σ H' s' ∧ IsPart u o ∧ Q o H') X.xe s
def tNoPart : TO := fun _ H Q => Q none H
def tPart (t : TE) : TO := fun σ H Q => t σ H fun x H1 => ∃ i, x = .int i ∧ Q (some i) H1

section
variable {X : Cx} {e : Expr} {te : TE} {lo hi : Option Expr} {tl th : TO} {pos p2 : Pos}

theorem po_none : PO X none tNoPart := by
  intro pins s σ H Q I h
  rw [evalPart_none]
  exact wpAny_pure ⟨none, H, I, .none, h⟩
theorem po_some (h : PE X e te) : PO X (some e) (tPart te) := by
  intro pins s σ H Q I hw
  rw [evalPart_some]
  refine thn (h pins s σ H _ I hw) fun u s1 ⟨x, H1, I1, r1, q1⟩ => ?_
  obtain ⟨i, rfl, q⟩ := q1
  obtain ⟨t, rfl⟩ := r1
  exact ⟨some i, H1, I1, .int i t, q⟩

/-- what a slice of a value is, by values: the slice object stands at sl -/
def SlR (X : Cx) (r : V → Option Int → Option Int → Hp → VK → Prop) : Prop :=
  ∀ (pins : List (Addr × Obj)) (s : Shared) (σ : St) (H : Hp) (x : V) (v vl vu : Value) (lo hi : Option Int) (sl : Addr) (Q : VK), Inv X pins σ H s → RelV x v → s.heap.IsSliceOf sl vl vu .none → IsPart vl lo → IsPart vu hi → r x lo hi H Q →
    ∃ T id, typeLookup (.type T) "__getitem__" = pure (some (.builtin id)) ∧ s.TypeIs v T ∧ wpAny (model X.prog X.w) X.A (getItem v (.ref sl)) (EP X pins σ Q) X.xe s
theorem SlR.or {r r' : V → Option Int → Option Int → Hp → VK → Prop} (h : SlR X r) (h' : SlR X r') : SlR X (fun x lo hi H Q => r x lo hi H Q ∨ r' x lo hi H Q) := by
  intro pins s σ H x v vl vu lo hi sl Q I rx hs pl pu q
  rcases q with q | q
  · exact h pins s σ H x v vl vu lo hi sl Q I rx hs pl pu q
  · exact h' pins s σ H x v vl vu lo hi sl Q I rx hs pl pu q
def tSl (r : V → Option Int → Option Int → Hp → VK → Prop) (te : TE) (tl th : TO) : TE := fun σ H Q => te σ H fun x H1 => tl σ H1 fun l H2 => th σ H2 fun u H3 => r x l u H3 Q
/-- a[lo:hi], any a -/
theorem pe_slice {r : V → Option Int → Option Int → Hp → VK → Prop} (hr : SlR X r) (he : PE X e te) (hl : PO X lo tl) (hu : PO X hi th) : PE X (.Subscript e (.Slice lo hi none p2) pos) (tSl r te tl th) := by
  refine .mk fun pins s σ H Q I h => ?_
  refine Subscript_ (thn (he pins s σ H _ I h) fun v s1 ⟨x, H1, I1, r1, q1⟩ => ?_)
  refine wpAny_Slice (thn (hl pins s1 σ H1 _ I1 q1) fun vl s2 ⟨l, H2, I2, pl, q2⟩ => thn (hu pins s2 σ H2 _ I2 q2) fun vu s3 ⟨u, H3, I3, pu, q3⟩ => ?_)
  rw [evalPart_none]
  refine wpAny_pure ?_
  have I4 : Inv X pins σ H3 { s3 with heap := s3.heap.push { cls := .type "slice", data := .fields #[vl, vu, .none] } } := I3.kept (t' := s3.toks) fun b ob q => Heap.get?_push_of_some _ q
  obtain ⟨T, id, hT, ht, hg⟩ := hr pins { s3 with heap := s3.heap.push { cls := .type "slice", data := .fields #[vl, vu, .none] } } σ H3 x v vl vu l u s3.heap.objs.size Q I4 r1 (Heap.IsSliceOf.new ..) pl pu q3
  show wpAny (model X.prog X.w) X.A (subscriptTail e (.Slice lo hi none p2) v (.ref s3.heap.objs.size)) (EP X pins σ Q) X.xe { s3 with heap := s3.heap.push { cls := .type "slice", data := .fields #[vl, vu, .none] } }
  exact tail_any (ops := [.ref s3.heap.objs.size, v]) ht hT hg (by with_unfolding_all rfl)

/-- the items of xs[lo:hi] -/
def cutV (xs : List V) (lo hi : Option Int) : List V := (xs.drop (HT.sIx xs.length 0 lo)).take (HT.sIx xs.length xs.length hi - HT.sIx xs.length 0 lo)
theorem cutV_length (xs : List V) (lo hi : Option Int) : (cutV xs lo hi).length ≤ xs.length := by
  unfold cutV
  rw [List.length_take, List.length_drop]
  omega
/-- t[lo:hi], not the whole of it (the whole would be t itself) -/
def rSlT (K : PySem.W.Frag) : V → Option Int → Option Int → Hp → VK → Prop := fun x lo hi H Q => ∃ a xs, x = .ref a ∧ SqT K H a xs ∧
  ¬ (HT.sIx xs.length 0 lo = 0 ∧ HT.sIx xs.length xs.length hi = xs.length) ∧ ∀ p, H p = none → Q (.ref p) (upd H p (.tup (cutV xs lo hi)))
theorem sl_tup : SlR X (rSlT X.K) := by
  intro pins s σ H x v vl vu lo hi sl Q I rx hs pl pu h
  obtain ⟨a, xs, rfl, hx, hw, q⟩ := h
  cases rx
  obtain ⟨its, r, ht, hz⟩ := I.tuple hx
  have hlen : its.toArray.size = xs.length := by rw [List.size_toArray]; exact r.length.symm
  refine ⟨"tuple", _, PyProof.Rows.slot_tuple_getitem.lookup, ht.typeIs, ?_⟩
  refine HT.getItem_tuple_cut ht hs pl pu (by rw [hlen]; exact hw) ?_ (by rw [hlen]; exact hz)
  rw [hlen]
  refine ⟨.ref s.heap.objs.size, _, I.laid (t' := s.toks) (o := .tup (cutV xs lo hi)) (fun b ob q => Heap.get?_push_of_some _ q) (Nat.le_refl _) ?_, rfl, q _ (I.hok.fresh (Nat.le_refl _))⟩
  exact ⟨Nat.le_trans (cutV_length xs lo hi) hz, _, (r.drop (HT.sIx xs.length 0 lo)).take (HT.sIx xs.length xs.length hi - HT.sIx xs.length 0 lo), IsTup.new _ _⟩

/-! ### t < u, t + u -/
end
end L2

namespace L2
open PySem PySem.Spec PyProof.Rows

/-! ### places -/
/-- the place that an index of any sign means -/
def ixN (n : Nat) (i : Int) : Option Nat := if 0 ≤ i then (if i < n then some i.toNat else none) else if -(n : Int) ≤ i then some (i + n).toNat else none
def atI {α : Type} (xs : List α) (i : Int) : Option α := (ixN xs.length i).bind fun j => xs[j]?
theorem ixN_seq {n : Nat} {i : Int} {j : Nat} (h : ixN n i = some j) : seqIndex? i n = some j ∧ j < n ∧ -(n : Int) ≤ i ∧ i < n := by
  unfold ixN at h
  by_cases h0 : 0 ≤ i
  · rw [if_pos h0] at h
    by_cases h1 : i < n
    · rw [if_pos h1] at h
      have e : i.toNat = j := Option.some.inj h
      exact ⟨by rw [seqIndex_of h0 h1, e], by omega, by omega, h1⟩
    · rw [if_neg h1] at h; cases h
  · rw [if_neg h0] at h
    by_cases h1 : -(n : Int) ≤ i
    · rw [if_pos h1] at h
      have e : (i + n).toNat = j := Option.some.inj h
      exact ⟨by rw [seqIndex_neg (by omega) h1, e], by omega, h1, by omega⟩
    · rw [if_neg h1] at h; cases h
theorem atI_get {α : Type} {xs : List α} {i : Int} {v : α} (h : atI xs i = some v) : ∃ j, seqIndex? i xs.length = some j ∧ xs[j]? = some v ∧ j < xs.length ∧ -(xs.length : Int) ≤ i ∧ i < xs.length := by
  unfold atI at h
  cases e : ixN xs.length i with
  | none => rw [e] at h; cases h
  | some j =>
    rw [e] at h
    obtain ⟨h1, h2, h3, h4⟩ := ixN_seq e
    exact ⟨j, h1, h, h2, h3, h4⟩
theorem atI_nat {α : Type} {xs : List α} {j : Nat} {v : α} (h : xs[j]? = some v) : atI xs (j : Int) = some v := by
  have hj : j < xs.length := (List.getElem?_eq_some_iff.mp h).1
  have e : ixN xs.length (j : Int) = some j := by
    unfold ixN
    rw [if_pos (by omega), if_pos (by omega)]; simp
  unfold atI; rw [e]; exact h
/-! ### what may be subscripted -/
/-- what stands as an index of a plain subscript -/
def PlainIx (b : Expr) : Prop := ∀ o i, subscripted b false o i = operate [o, i] (getItem o i)
/-- a subscript by values -/
def IxR (X : Cx) (r : R2) : Prop :=
  ∀ (value slice : Expr) (pins : List (Addr × Obj)) (s : Shared) (σ : St) (H : Hp) (x y : V) (v u : Value) (Q : VK), Inv X pins σ H s → RelV x v → RelV y u → r x y H Q →
    subscripted slice false v u = operate [v, u] (getItem v u) → wpAny (model X.prog X.w) X.A (subscriptTail value slice v u) (EP X pins σ Q) X.xe s
/-- a call of a builtin's method by values: the receiver, the arguments -/
def MtR (X : Cx) (id : String) (r : V → List V → Hp → VK → Prop) : Prop :=
  ∀ (pins : List (Addr × Obj)) (s : Shared) (σ : St) (H : Hp) (x : V) (xs : List V) (v : Value) (us : List Value) (Q : VK), Inv X pins σ H s → RelV x v → Vals xs us → r x xs H Q →
    wpAny (model X.prog X.w) X.A (call (.builtin id) (v :: us)) (EP X pins σ Q) X.xe s
section
variable {X : Cx} {a b : Expr} {ta tb : TE} {pos : Pos}
theorem IxR.or {r r' : R2} (h : IxR X r) (h' : IxR X r') : IxR X (fun x y H Q => r x y H Q ∨ r' x y H Q) := by
  intro value slice pins s σ H x y v u Q I rx ry q hs
  rcases q with q | q
  · exact h value slice pins s σ H x y v u Q I rx ry q hs
  · exact h' value slice pins s σ H x y v u Q I rx ry q hs
theorem MtR.or {id : String} {r r' : V → List V → Hp → VK → Prop} (h : MtR X id r) (h' : MtR X id r') : MtR X id (fun x xs H Q => r x xs H Q ∨ r' x xs H Q) := by
  intro pins s σ H x xs v us Q I rx rs q
  rcases q with q | q
  · exact h pins s σ H x xs v us Q I rx rs q
  · exact h' pins s σ H x xs v us Q I rx rs q
/-- a[b] -/
theorem pe_ix {r : R2} (hr : IxR X r) (ha : PE X a ta) (hb : PE X b tb) (hs : PlainIx b) : PE X (.Subscript a b pos) (tOp r ta tb) := by
  refine .mk fun pins s σ H Q I h => ?_
  exact Subscript_ (binT ha hb I h fun v u s2 x y H2 I2 rx ry q => hr a b pins s2 σ H2 x y v u Q I2 rx ry q (hs _ _))

def rIxL (K : PySem.W.Frag) : R2 := fun x y H Q => ∃ p xs i v, x = .ref p ∧ y = .int i ∧ SqL K H p xs ∧ atI xs i = some v ∧ Q v H
def rIxT (K : PySem.W.Frag) : R2 := fun x y H Q => ∃ p xs i v, x = .ref p ∧ y = .int i ∧ SqT K H p xs ∧ atI xs i = some v ∧ Q v H
theorem ix_list : IxR X (rIxL X.K) := by
  intro value slice pins s σ H x y v u Q I rx ry h hs
  obtain ⟨p, xs, i, z, rfl, rfl, hq, he, q⟩ := h
  cases rx
  obtain ⟨t, rfl⟩ := ry
  obtain ⟨its, r, pl, hz⟩ := I.list hq
  obtain ⟨j, h1, h2, h3, h4, h5⟩ := atI_get he
  obtain ⟨w, ew, rw'⟩ := r.get h2
  have hl := r.length
  have hn := line63
  have fin : EP X pins σ Q w s := ⟨z, H, I, rw', q⟩
  by_cases h0 : 0 ≤ i
  · have hj : i.toNat = j := by
      rw [seqIndex_of h0 h5] at h1
      exact Option.some.inj h1
    exact item_listR pl.isList h0 (by omega) (by rw [hj]; simpa using ew) fin hs
  · have hj : (i + (its.toArray.size : Int)).toNat = j := by
      rw [seqIndex_neg (by omega) h4] at h1
      rw [List.size_toArray, ← hl]
      exact Option.some.inj h1
    exact subscriptTail_builtinR (x := w) pl.isList.typeIs slot_list_getitem.lookup
      (wpAny_getItem_list_neg (Q := fun r s' => r = w ∧ EP X pins σ Q r s') pl.isList (by omega) (by rw [List.size_toArray] <;> omega) (by omega) (by rw [hj]; simpa using ew) ⟨rfl, fin⟩) hs
theorem ix_tup : IxR X (rIxT X.K) := by
  intro value slice pins s σ H x y v u Q I rx ry h hs
  obtain ⟨p, xs, i, z, rfl, rfl, hq, he, q⟩ := h
  cases rx
  obtain ⟨t, rfl⟩ := ry
  obtain ⟨its, r, pl, hz⟩ := I.tuple hq
  obtain ⟨j, h1, h2, h3, h4, h5⟩ := atI_get he
  obtain ⟨w, ew, rw'⟩ := r.get h2
  have hl := r.length
  have hn := line63
  have fin : EP X pins σ Q w s := ⟨z, H, I, rw', q⟩
  exact subscriptTail_builtinR (x := w) pl.typeIs slot_tuple_getitem.lookup
    (getItem_tuple (j := j) (Q := fun r s' => r = w ∧ EP X pins σ Q r s') pl (by omega) (by omega) (by rw [List.size_toArray, ← hl]; exact h1) (by simpa using ew) ⟨rfl, fin⟩) hs
/-! ### xs[i] = v, any sign -/
theorem Inv.lst {pins : List (Addr × Obj)} {σ : St} {H : Hp} {s : Shared} {p : Addr} {xs : List V} (I : Inv X pins σ H s) (h : H p = some (.lst xs)) :
    ∃ (its : List Value) (n : Nat), Vals xs its ∧ s.heap.get? p = some { cls := .type "list", data := .seq its.toArray n } ∧ xs.length ≤ sizeLine := by
  obtain ⟨z, its, n, r, e⟩ := I.hok p _ h
  exact ⟨its, n, r, e, z⟩
/-! ### slices -/
theorem slice_bounds (lo hi : Option Int) (n : Nat) : (sliceBounds lo hi none n).1 = ((HT.sIx n 0 lo : Nat) : Int) ∧ (sliceBounds lo hi none n).2.1 = ((HT.sIx n n hi : Nat) : Int) ∧ (sliceBounds lo hi none n).2.2 = 1 := by
  refine ⟨?_, ?_, rfl⟩
  · cases lo with
    | none => simp [sliceBounds, HT.sIx]
    | some i =>
      simp only [sliceBounds, HT.sIx, Option.getD_none, show (1 : Int) > 0 by decide, if_true]
      by_cases h : i < 0
      · simp only [h, if_true] <;> omega
      · simp only [h, if_false] <;> omega
  · cases hi with
    | none => simp [sliceBounds, HT.sIx]
    | some i =>
      simp only [sliceBounds, HT.sIx, Option.getD_none, show (1 : Int) > 0 by decide, if_true]
      by_cases h : i < 0
      · simp only [h, if_true] <;> omega
      · simp only [h, if_false] <;> omega
theorem slicePick_cut (its : List Value) (lo hi : Option Int) : slicePick its.toArray lo hi none = ((its.drop (HT.sIx its.length 0 lo)).take (HT.sIx its.length its.length hi - HT.sIx its.length 0 lo)).toArray := by
  obtain ⟨h1, h2, h3⟩ := slice_bounds lo hi its.toArray.size
  unfold slicePick
  rw [h1, h2, h3]
  simp only [sliceRange_one, pick_run, List.size_toArray] <;> rfl
/-- xs[lo:hi] of a list: a new list -/
def rSlL (K : PySem.W.Frag) : V → Option Int → Option Int → Hp → VK → Prop := fun x lo hi H Q => ∃ a xs, x = .ref a ∧ SqL K H a xs ∧ ∀ p, H p = none → Q (.ref p) (upd H p (.lst (cutV xs lo hi)))
theorem sl_list : SlR X (rSlL X.K) := by
  intro pins s σ H x v vl vu lo hi sl Q I rx hs pl pu h
  obtain ⟨a, xs, rfl, hx, q⟩ := h
  cases rx
  obtain ⟨its, r, ht, hz⟩ := I.list hx
  have hlen := r.length
  refine ⟨"list", _, slot_list_getitem.lookup, ht.isList.typeIs, ?_⟩
  refine wpAny_getItem_list_slice ht.isList hs pl pu .none (by simp) ?_ (by rw [List.size_toArray] <;> omega)
  rw [slicePick_cut, ← hlen]
  refine ⟨.ref s.heap.objs.size, _, I.laid (t' := s.toks) (o := .lst (cutV xs lo hi)) (fun b ob q => Heap.get?_push_of_some _ q) (Nat.le_refl _) ?_, rfl, q _ (I.hok.fresh (Nat.le_refl _))⟩
  exact ⟨Nat.le_trans (cutV_length xs lo hi) hz, _, 0, (r.drop (HT.sIx xs.length 0 lo)).take (HT.sIx xs.length xs.length hi - HT.sIx xs.length 0 lo), Heap.get?_push_size _ rfl⟩

/-! ### in, not in: flat items -/
def flatV : V → Bool
  | .non => true
  | .bl _ => true
  | .int _ => true
  | .str _ => true
  | _ => false
/-- == of flat values -/
def eqV : V → V → Bool
  | .non, .non => true
  | .bl a, .bl b => a == b
  | .bl a, .int b => (if a then 1 else 0) == b
  | .int a, .bl b => a == (if b then 1 else 0)
  | .int a, .int b => a == b
  | .str a, .str b => a == b
  | _, _ => false
theorem eqAt_V {A : Around} {s : Shared} {y x : V} {u v : Value} (ry : RelV y u) (rx : RelV x v) (fy : flatV y = true) (fx : flatV x = true) : SeqAt.EqAt A s u v (eqV y x) := by
  cases y with
  | non =>
    cases ry
    cases x with
    | non => cases rx; exact SeqAt.EqAt.same _
    | bl b => cases rx; exact SeqAt.EqAt.none_bool b
    | int b => obtain ⟨t, rfl⟩ := rx; exact SeqAt.EqAt.none_int b t
    | str b => obtain ⟨t, rfl⟩ := rx; exact SeqAt.EqAt.none_str b t
    | _ => exact absurd (show false = true from fx) Bool.false_ne_true
  | bl a =>
    cases ry
    cases x with
    | non => cases rx; exact SeqAt.EqAt.bool_none a
    | bl b => cases rx; exact SeqAt.EqAt.bool_bool a b
    | int b => obtain ⟨t, rfl⟩ := rx; exact SeqAt.EqAt.bool_int a b t
    | str b => obtain ⟨t, rfl⟩ := rx; exact SeqAt.EqAt.bool_str a b t
    | _ => exact absurd (show false = true from fx) Bool.false_ne_true
  | int a =>
    obtain ⟨t', rfl⟩ := ry
    cases x with
    | non => cases rx; exact SeqAt.EqAt.int_none a t'
    | bl b => cases rx; exact SeqAt.EqAt.int_bool a t' b
    | int b => obtain ⟨t, rfl⟩ := rx; exact SeqAt.EqAt.int_int a t' b t
    | str b => obtain ⟨t, rfl⟩ := rx; exact SeqAt.EqAt.int_str a t' b t
    | _ => exact absurd (show false = true from fx) Bool.false_ne_true
  | str a =>
    obtain ⟨t', rfl⟩ := ry
    cases x with
    | non => cases rx; exact SeqAt.EqAt.str_none a t'
    | bl b => cases rx; exact SeqAt.EqAt.str_bool a t' b
    | int b => obtain ⟨t, rfl⟩ := rx; exact SeqAt.EqAt.str_int a t' b t
    | str b => obtain ⟨t, rfl⟩ := rx; exact SeqAt.EqAt.str_str a t' b t
    | _ => exact absurd (show false = true from fx) Bool.false_ne_true
  | _ => exact absurd (show false = true from fy) Bool.false_ne_true
/-- the items' answers, read off the values (a value's own answer does not lean on its token) -/
def eqU (x : V) (u : Value) : Bool := match u with
  | .none => eqV .non x
  | .bool b => eqV (.bl b) x
  | .int i _ => eqV (.int i) x
  | .str z _ => eqV (.str z) x
  | _ => false
theorem eqU_of {x y : V} {u : Value} (r : RelV y u) (f : flatV y = true) : eqU x u = eqV y x := by
  cases y with
  | non => cases r; rfl
  | bl b => cases r; rfl
  | int i => obtain ⟨t, rfl⟩ := r; rfl
  | str z => obtain ⟨t, rfl⟩ := r; rfl
  | _ => exact absurd (show false = true from f) Bool.false_ne_true
theorem any_eqU {x : V} : ∀ {xs : List V} {us : List Value}, Vals xs us → xs.all flatV = true → us.any (eqU x) = xs.any fun y => eqV y x
  | _, _, .nil, _ => rfl
  | y :: xs, u :: us, .cons r t, f => by
    rw [List.all_cons, Bool.and_eq_true] at f
    rw [List.any_cons, List.any_cons, eqU_of r f.1, any_eqU t f.2]
theorem mem_eqAt {A : Around} {s : Shared} {x : V} {v : Value} (rx : RelV x v) (fx : flatV x = true) : ∀ {xs : List V} {us : List Value}, Vals xs us → xs.all flatV = true → ∀ u ∈ us, SeqAt.EqAt A s u v (eqU x u)
  | _, _, .nil, _ => fun u hu => by cases hu
  | y :: xs, u :: us, .cons r t, f => fun u' hu => by
    rw [List.all_cons, Bool.and_eq_true] at f
    rcases List.mem_cons.mp hu with rfl | hu
    · rw [eqU_of r f.1]; exact eqAt_V r rx f.1 fx
    · exact mem_eqAt rx fx t f.2 u' hu
def inV (x : V) (xs : List V) : Bool := xs.any fun y => eqV y x
/-- x in a list or tuple of flat items -/
def rIn (K : PySem.W.Frag) (neg : Bool) : R2 := fun x y H Q => ∃ p xs, y = .ref p ∧ (SqL K H p xs ∨ SqT K H p xs) ∧ flatV x = true ∧ xs.all flatV = true ∧ Q (.bl (if neg then !inV x xs else inV x xs)) H
theorem op_in_seq : OpR X (compareOp .In) (rIn X.K false) := by
  intro pins s σ H x y v u Q I rx ry h
  obtain ⟨p, xs, rfl, hq, fx, fs, q⟩ := h
  cases ry
  rcases hq with hq | hq
  · obtain ⟨its, r, pl, hz⟩ := I.list hq
    refine SeqAt.in_listAt (eqU x) pl.isList (fun w hw => mem_eqAt rx fx r fs w (by simpa using hw)) ⟨.bl _, H, I, rfl, ?_⟩
    rw [show its.toArray.any (eqU x) = its.any (eqU x) by simp, any_eqU r fs]
    exact q
  · obtain ⟨its, r, pl, hz⟩ := I.tuple hq
    refine SeqAt.in_tupleAt (eqU x) pl (fun w hw => mem_eqAt rx fx r fs w (by simpa using hw)) ⟨.bl _, H, I, rfl, ?_⟩
    rw [show its.toArray.any (eqU x) = its.any (eqU x) by simp, any_eqU r fs]
    exact q
/-! ### len, list(x), tuple(x) of any list or tuple that is read -/
theorem call_len_seq : CallR X (.builtin "len") (fun xs H Q => ∃ p ys, xs = [.ref p] ∧ (SqL X.K H p ys ∨ SqT X.K H p ys) ∧ Q (.int ys.length) H) := by
  intro pins s σ H xs us Q I r h
  obtain ⟨p, ys, rfl, hq, q⟩ := h
  obtain ⟨u, rfl, rx⟩ := vals1 r
  cases rx
  have hn := line63
  rcases hq with hq | hq
  · obtain ⟨its, r', pl, hz⟩ := I.list hq
    have hlen := r'.length
    exact Calls.call_len_list pl.isList (by simp only [List.size_toArray] <;> omega) ⟨.int ys.length, H, I.tok _, ⟨s.toks + 1, by rw [List.size_toArray, hlen]⟩, q⟩
  · obtain ⟨its, r', pl, hz⟩ := I.tuple hq
    have hlen := r'.length
    exact len_tuple pl (by simp only [List.size_toArray] <;> omega) ⟨.int ys.length, H, I.tok _, ⟨s.toks + 1, by rw [List.size_toArray, hlen]⟩, q⟩
theorem CallR.or {f : Value} {r r' : List V → Hp → VK → Prop} (h : CallR X f r) (h' : CallR X f r') : CallR X f (fun xs H Q => r xs H Q ∨ r' xs H Q) := by
  intro pins s σ H xs us Q I rs q
  rcases q with q | q
  · exact h pins s σ H xs us Q I rs q
  · exact h' pins s σ H xs us Q I rs q
theorem call_list_of : CallR X (.type "list") (fun xs H Q => ∃ p ys, xs = [.ref p] ∧ (SqL X.K H p ys ∨ SqT X.K H p ys) ∧ ∀ l, H l = none → Q (.ref l) (upd H l (.lst ys))) := by
  intro pins s σ H xs us Q I r h
  obtain ⟨p, ys, rfl, hq, q⟩ := h
  obtain ⟨u, rfl, rx⟩ := vals1 r
  cases rx
  have fin : ∀ (its : List Value), Vals ys its → ys.length ≤ sizeLine → ∀ (h' : Heap) (c' : Nat), (∀ b o', s.heap.get? b = some o' → h'.get? b = some o') →
      h'.get? s.heap.objs.size = some { cls := .type "list", dict := none, data := .seq its.toArray c', slots := #[] } → EP X pins σ Q (.ref s.heap.objs.size) { s with heap := h' } := fun its r' hz h' c' kp e =>
    ⟨.ref s.heap.objs.size, _, I.laid (t' := s.toks) kp (Nat.le_refl _) (show ObjOk X.prog X.w _ h' _ (.lst ys) from ⟨hz, its, c', r', e⟩), rfl, q _ (I.hok.fresh (Nat.le_refl _))⟩
  rcases hq with hq | hq
  · obtain ⟨its, r', pl, hz⟩ := I.list hq
    have hlen := r'.length
    obtain ⟨o, ho, hc, n, hd⟩ := pl.isList
    exact call_list_seq p (.inl rfl) ho hc hd (fun h' c' kp e => fin its r' hz h' c' kp e) (by simp only [List.size_toArray] <;> omega)
  · obtain ⟨its, r', pl, hz⟩ := I.tuple hq
    have hlen := r'.length
    obtain ⟨o, ho, hc, n, hd⟩ := pl
    exact call_list_seq p (.inr rfl) ho hc hd (fun h' c' kp e => fin its r' hz h' c' kp e) (by simp only [List.size_toArray] <;> omega)
theorem call_tuple_of : CallR X (.type "tuple") (fun xs H Q => ∃ p ys, xs = [.ref p] ∧ ((SqL X.K H p ys ∧ ∀ l, H l = none → Q (.ref l) (upd H l (.tup ys))) ∨ (SqT X.K H p ys ∧ Q (.ref p) H))) := by
  intro pins s σ H xs us Q I r h
  obtain ⟨p, ys, rfl, h⟩ := h
  obtain ⟨u, rfl, rx⟩ := vals1 r
  cases rx
  rcases h with ⟨hq, q⟩ | ⟨hq, q⟩
  · obtain ⟨its, r', pl, hz⟩ := I.list hq
    have hlen := r'.length
    refine call_tuple_list pl.isList (fun h' kp => ?_) (by simp only [List.size_toArray] <;> omega)
    have I1 : Inv X pins σ H { s with heap := h' } := I.kept (t' := s.toks) kp
    have I2 : Inv X pins σ (upd H h'.objs.size (.tup ys)) { s with heap := h'.push { cls := .type "tuple", data := .seq its.toArray } } :=
      I1.laid (t' := s.toks) (fun b o e => Heap.get?_push_of_some _ e) (Nat.le_refl _) (show ObjOk X.prog X.w _ _ _ (.tup ys) from ⟨hz, its, r', IsTup.new _ _⟩)
    exact ⟨.ref h'.objs.size, _, I2, rfl, q _ (I1.hok.fresh (Nat.le_refl _))⟩
  · obtain ⟨its, r', pl, hz⟩ := I.tuple hq
    exact call_tuple_same pl ⟨.ref p, H, I, rfl, q⟩

/-! ### the call of a builtin's method: o.m(..) -/
/-- the value is of that builtin type -/
def tyV (K : PySem.W.Frag) (T : String) (x : V) (H : Hp) : Prop := match x with
  | .str _ => T = "str"
  | .int _ => T = "int"
  | .ref p => (T = "list" ∧ ∃ xs, SqL K H p xs) ∨ (T = "tuple" ∧ ∃ o, K.lookup p = some o ∧ o.cls = .type "tuple" ∧ o.dict = none) ∨
      (T = "dict" ∧ ((∃ kvs, H p = some (.dK kvs)) ∨ ∃ kvs, H p = some (.dT kvs))) ∨ (T = "set" ∧ ∃ S n, H p = some (.set S n))
  | _ => False
theorem tyV_is {pins : List (Addr × Obj)} {σ : St} {H : Hp} {s : Shared} {T : String} {x : V} {v : Value} (I : Inv X pins σ H s) (r : RelV x v) (ty : tyV X.K T x H) :
    s.TypeIs v T ∧ ∀ a, v = .ref a → ∃ ob, s.heap.get? a = some ob ∧ ob.dict = none := by
  cases x with
  | str z =>
    obtain ⟨t, rfl⟩ := r
    cases (show T = "str" from ty)
    exact ⟨typeIs_str s z t, fun _ e => nomatch e⟩
  | int i =>
    obtain ⟨t, rfl⟩ := r
    cases (show T = "int" from ty)
    exact ⟨typeIs_int s i t, fun _ e => nomatch e⟩
  | ref p =>
    cases r
    rcases ty with ⟨rfl, xs, hq⟩ | ⟨rfl, o, hk, hc, hd⟩ | ⟨rfl, hk⟩ | ⟨rfl, S, n, hk⟩
    · obtain ⟨its, _, pl, _⟩ := I.list hq
      refine ⟨pl.isList.typeIs, fun a e => ?_⟩
      cases e
      obtain ⟨o, n, e, c, hd, _⟩ := pl
      exact ⟨o, e, hd⟩
    · refine ⟨⟨o, I.kIn p o hk, hc⟩, fun a e => ?_⟩
      cases e
      exact ⟨o, I.kIn _ o hk, hd⟩
    · have z : ∃ o, s.heap.get? p = some o ∧ o.ExactDict := by
        rcases hk with ⟨kvs, hk⟩ | ⟨kvs, hk⟩
        · obtain ⟨_, _, _, _, o, _, _, e, ex, _⟩ := I.hok p _ hk
          exact ⟨o, e, ex⟩
        · obtain ⟨_, _, _, _, o, _, _, e, ex, _⟩ := I.hok p _ hk
          exact ⟨o, e, ex⟩
      obtain ⟨o, e, ex⟩ := z
      refine ⟨⟨o, e, ex.1⟩, fun a e2 => ?_⟩
      cases e2
      exact ⟨o, e, ex.2.1⟩
    · obtain ⟨o, _, _, _, e, ex, _⟩ := I.hok p _ hk
      refine ⟨⟨o, e, ex.1⟩, fun a e2 => ?_⟩
      cases e2
      exact ⟨o, e, ex.2.1⟩
  | _ => exact False.elim ty
def tBM0 (K : PySem.W.Frag) (T : String) (r : V → List V → Hp → VK → Prop) (to : TE) : TE := fun σ H Q => to σ H fun x H1 => tyV K T x H1 ∧ r x [] H1 Q
def tBM (K : PySem.W.Frag) (T : String) (r : V → List V → Hp → VK → Prop) (to : TE) (t : TA) : TE := fun σ H Q => to σ H fun x H1 => tyV K T x H1 ∧ t σ H1 fun xs H2 => r x xs H2 Q
variable {o e : Expr} {es : List Expr} {to : TE} {t : TA} {name : Str} {apos cpos : Pos} {T id : String} {r : V → List V → Hp → VK → Prop}
theorem pe_bm0 (pa : PlainAttrs T) (slot : Slot T name id) (hty : typeOf (.builtin id) = pure (.type "method_descriptor")) (hm : MtR X id r) (ho : PE X o to)
    (hbase : attributeBase o name X.env (eval o X.env) = eval o X.env := by rfl) (hline : (apos.endLine == cpos.line) = true := by rfl) : PE X (.Call (.Attribute o name apos) [] [] cpos) (tBM0 X.K T r to) := by
  refine .mk fun pins s σ H Q I h => ?_
  refine wpAny_Call_method0_late hbase hline (thn (ho pins s σ H _ I h) fun v s1 ⟨x, H1, I1, r1, ty, q1⟩ => ?_)
  obtain ⟨h1, h2⟩ := tyV_is I1 r1 ty
  exact ⟨T, id, pa, slot, hty, h1, h2, Calls.callWith_builtin rfl (PySem.evalArgs_none (hm pins s1 σ H1 x [] v [] Q I1 r1 .nil q1))⟩
theorem pe_bm (pa : PlainAttrs T) (slot : Slot T name id) (hty : typeOf (.builtin id) = pure (.type "method_descriptor")) (hm : MtR X id r) (ho : PE X o to) (ha : PA X (e :: es) t)
    (hbase : attributeBase o name X.env (eval o X.env) = eval o X.env := by rfl)
    (hfew : ((backTo cpos (starEach (e :: es) X.env)).all (fun x => !x.1) && (backToKw cpos (keywordEach [] X.env)).all (fun x => x.1.isSome)
      && decide ((e :: es).length + ([] : List Keyword).length + (if ([] : List Keyword).isEmpty then 0 else 1) < 30)) = true := by rfl)
    (hline : (apos.endLine == cpos.line) = true := by rfl) (hs : starEach (e :: es) X.env = (false, eval e X.env) :: starEach es X.env := by rfl) (hplain : (backTo cpos (starEach es X.env)).any (·.1) = false := by rfl) :
    PE X (.Call (.Attribute o name apos) (e :: es) [] cpos) (tBM X.K T r to t) := by
  refine .mk fun pins s σ H Q I h => ?_
  refine wpAny_Call_method_late hbase hfew hline rfl (thn (ho pins s σ H _ I h) fun v s1 ⟨x, H1, I1, r1, ty, q1⟩ => ?_)
  obtain ⟨h1, h2⟩ := tyV_is I1 r1 ty
  refine ⟨T, id, pa, slot, hty, h1, h2, ?_⟩
  have hA := ha cpos pins s1 σ H1 _ I1 q1
  rw [hs] at hA ⊢
  refine Calls.callWith_builtin (by show (false || (backTo cpos (starEach es X.env)).any (·.1)) = false; rw [hplain] <;> rfl) (Calls.evalArgs_plain ?_)
  exact thn hA fun us s2 ⟨vs, H2, I2, r2, q2⟩ => hm pins s2 σ H2 x vs v us Q I2 r1 r2 q2
/- xs.append(e), list.index on a module's tuple .. are MtR facts of 06m -/
end
end L2

namespace L2
open PySem PySem.Spec PyProof.Rows

def MtM (X : Cx) (id : String) (r : V → List V → Hp → VK → Prop) : Prop :=
  ∀ (pins : List (Addr × Obj)) (s : Shared) (σ : St) (H : Hp) (x : V) (xs : List V) (v : Value) (us : List Value) (Q : VK), Inv X pins σ H s → RelV x v → Vals xs us → r x xs H Q →
    wpAny (model X.prog X.w) X.A (call (.builtin id) (v :: us)) (EP X pins σ Q) X.xe s

/-! ### lists of values -/
theorem Vals.one : ∀ {x : V} {us : List Value}, Vals [x] us → ∃ u, us = [u] ∧ RelV x u
  | _, _, .cons r .nil => ⟨_, rfl, r⟩
theorem Vals.two : ∀ {x y : V} {us : List Value}, Vals [x, y] us → ∃ u v, us = [u, v] ∧ RelV x u ∧ RelV y v
  | _, _, _, .cons r (.cons q .nil) => ⟨_, _, rfl, r, q⟩
theorem Vals.zero : ∀ {us : List Value}, Vals [] us → us = []
  | _, .nil => rfl
theorem Vals.reverse {xs : List V} {us : List Value} (h : Vals xs us) : Vals xs.reverse us.reverse := by
  induction h with
  | nil => exact .nil
  | cons r t ih => rw [List.reverse_cons, List.reverse_cons]; exact Vals.append ih (.cons r .nil)
theorem Vals.rep {xs : List V} {us : List Value} (h : Vals xs us) : ∀ k : Nat, Vals (List.replicate k xs).flatten (List.replicate k us).flatten
  | 0 => .nil
  | k + 1 => by
    rw [List.replicate_succ, List.replicate_succ, List.flatten_cons, List.flatten_cons]
    exact Vals.append h (Vals.rep h k)
theorem foldl_rep (its : List Value) : ∀ (k : Nat) (acc : List Value),
    List.foldl (fun x1 x2 => x1 ++ x2) acc.toArray (List.replicate k its.toArray) = (acc ++ (List.replicate k its).flatten).toArray
  | 0, acc => by simp
  | k + 1, acc => by
    have e : acc.toArray ++ its.toArray = (acc ++ its).toArray := by simp
    have e2 : (acc ++ its) ++ (List.replicate k its).flatten = acc ++ (List.replicate (k + 1) its).flatten := by
      rw [List.replicate_succ, List.flatten_cons, List.append_assoc]
    rw [← e2, ← foldl_rep its k (acc ++ its), ← e, List.replicate_succ, List.foldl_cons]

section
variable {X : Cx} {pins : List (Addr × Obj)} {σ : St} {H : Hp} {s : Shared} {l b : Addr} {xs ys zs : List V}

/-! ### the two steps: a tracked list is rewritten, a new list is laid -/
theorem Inv.lset {its its' : List Value} {n : Nat} {f : Array Value → Array Value} {t' : Nat} (I : Inv X pins σ H s) (hH : H l = some (.lst xs))
    (e : s.heap.get? l = some { cls := .type "list", data := .seq its.toArray n }) (hf : f its.toArray = its'.toArray) (hv : Vals ys its') (hz : ys.length ≤ sizeLine) :
    Inv X pins σ (upd H l (.lst ys)) { s with heap := s.heap.update l (Obj.mapSeq f), toks := t' } := by
  have q := PySem.IsL.update e f
  rw [hf] at q
  refine I.write (x := l) (e := l) (by rw [hH]; exact trivial) (.inl rfl) (fun b' u hb hu => (Heap.get?_update_other s.heap (Obj.mapSeq f) (Ne.symm hb)).trans hu) ⟨_, q⟩ ?_
  exact ⟨hz, its', _, hv, q⟩
theorem Inv.lnew {its : List Value} {t' : Nat} (I : Inv X pins σ H s) (hv : Vals ys its) (hz : ys.length ≤ sizeLine) :
    Inv X pins σ (upd H s.heap.objs.size (.lst ys)) { s with heap := s.heap.push { cls := .type "list", data := .seq its.toArray }, toks := t' } :=
  I.laid (fun _ _ q => Heap.get?_push_of_some _ q) (Nat.le_refl _) ⟨hz, its, 0, hv, Heap.get?_push_size _ rfl⟩
theorem Inv.fresh (I : Inv X pins σ H s) : H s.heap.objs.size = none := I.hok.fresh (Nat.le_refl _)
theorem Inv.lstM (I : Inv X pins σ H s) (hH : H l = some (.lst xs)) : xs.length ≤ sizeLine ∧ ∃ (its : List Value) (n : Nat), Vals xs its ∧ xs.length = its.length ∧ s.heap.get? l = some { cls := .type "list", data := .seq its.toArray n } := by
  obtain ⟨z, its, n, r, e⟩ := I.hok l _ hH
  exact ⟨z, its, n, r, r.length, e⟩

theorem notLongL {n : Nat} (h : n ≤ sizeLine) : Builtin.List.listTooLong n = false := by
  unfold Builtin.List.listTooLong
  exact decide_eq_false (by omega)
end

section
variable {X : Cx}

/-! ### methods -/
def rAppend : V → List V → Hp → VK → Prop := fun x vs H Q => ∃ l xs y, x = .ref l ∧ vs = [y] ∧ H l = some (.lst xs) ∧ xs.length < sizeLine ∧ Q .non (upd H l (.lst (xs ++ [y])))
theorem mt_append : MtM X "list.append" rAppend := by
  intro pins s σ H x vs v us Q I rx rv h
  obtain ⟨l, xs, y, rfl, rfl, hH, hz, q⟩ := h
  cases rx
  obtain ⟨u, rfl, ru⟩ := rv.one
  obtain ⟨z, its, n, r, hl, e⟩ := I.lstM hH
  refine call_meets F.slot_list_append ⟨_, e, rfl⟩ F.entry_list_append (F.args_list_append_2 _ _) (PySem.list_append l its.toArray n u (by rw [List.size_toArray]; omega)) ⟨e, ?_⟩
  refine ⟨.non, _, I.lset (its' := its ++ [u]) hH e (by simp) (r.append (.cons ru .nil)) ?_, rfl, q⟩
  rw [List.length_append, List.length_singleton]
  omega

def rExtend : V → List V → Hp → VK → Prop := fun x vs H Q => ∃ l b xs zs, x = .ref l ∧ vs = [.ref b] ∧ H l = some (.lst xs) ∧ H b = some (.lst zs) ∧ xs.length + zs.length ≤ sizeLine ∧ Q .non (upd H l (.lst (xs ++ zs)))
theorem mt_extend : MtM X "list.extend" rExtend := by
  intro pins s σ H x vs v us Q I rx rv h
  obtain ⟨l, b, xs, zs, rfl, rfl, hH, hB, hz, q⟩ := h
  cases rx
  obtain ⟨u, rfl, ru⟩ := rv.one
  cases ru
  obtain ⟨z, its, n, r, hl, e⟩ := I.lstM hH
  obtain ⟨z2, its2, n2, r2, hl2, e2⟩ := I.lstM hB
  have hsz : its.toArray.size + its2.toArray.size ≤ sizeLine := by rw [List.size_toArray, List.size_toArray]; omega
  have hlong : ¬ (!its.toArray.isEmpty && Builtin.List.listTooLong (its.toArray.size + its2.toArray.size)) = true := by
    rw [notLongL hsz, Bool.and_false]
    exact Bool.false_ne_true
  refine call_meets F.slot_list_extend ⟨_, e, rfl⟩ F.entry_list_extend (F.args_list_extend_2 _ _)
    (AutoSeq1.list_extend_list_list_0 l its.toArray n b its2.toArray n2 hlong (by rw [List.size_toArray]; omega) (by omega)) ⟨e, e2, ?_⟩
  refine ⟨.non, _, I.lset (its' := its ++ its2) hH e (by simp) (r.append r2) ?_, rfl, q⟩
  rw [List.length_append]
  omega

/-! ### list + list, list += list, list * int -/
def rCat : R2 := fun x y H Q => ∃ l b xs zs, x = .ref l ∧ y = .ref b ∧ H l = some (.lst xs) ∧ H b = some (.lst zs) ∧ xs.length + zs.length ≤ sizeLine ∧ ∀ p, H p = none → Q (.ref p) (upd H p (.lst (xs ++ zs)))
theorem op_cat : OpR X (binaryOp .Add) rCat := by
  intro pins s σ H x y v u Q I rx ry h
  obtain ⟨l, b, xs, zs, rfl, rfl, hH, hB, hz, q⟩ := h
  cases rx
  cases ry
  obtain ⟨z, its, n, r, hl, e⟩ := I.lstM hH
  obtain ⟨z2, its2, n2, r2, hl2, e2⟩ := I.lstM hB
  refine PySem.P.add_list e e2 ?_ (by rw [List.size_toArray, List.size_toArray]; omega)
  have ea : its.toArray ++ its2.toArray = (its ++ its2).toArray := by simp
  rw [ea]
  exact ⟨.ref _, _, I.lnew (t' := s.toks) (r.append r2) (by rw [List.length_append]; omega), rfl, q _ I.fresh⟩
/-- a list times an int (a negative one is nothing) -/
def rRep : R2 := fun x y H Q => ∃ l k xs, x = .ref l ∧ y = .int k ∧ H l = some (.lst xs) ∧ -(2 ^ 63) ≤ k ∧ k < 2 ^ 63 ∧ xs.length * k.toNat ≤ sizeLine ∧
  ∀ p, H p = none → Q (.ref p) (upd H p (.lst (List.replicate k.toNat xs).flatten))
theorem len_rep {α : Type} (xs : List α) (k : Nat) : (List.replicate k xs).flatten.length = k * xs.length := by
  induction k with
  | zero => simp
  | succ k ih => rw [List.replicate_succ, List.flatten_cons, List.length_append, ih, Nat.succ_mul, Nat.add_comm]
theorem op_rep : OpR X (binaryOp .Mult) rRep := by
  intro pins s σ H x y v u Q I rx ry h
  obtain ⟨l, k, xs, rfl, rfl, hH, h1, h2, hz, q⟩ := h
  cases rx
  obtain ⟨t, rfl⟩ := ry
  obtain ⟨z, its, n, r, hl, e⟩ := I.lstM hH
  have hlen : its.toArray.size * k.toNat ≤ sizeLine := by rw [List.size_toArray, ← hl]; exact hz
  have hcap : ¬ its.toArray.size * k.toNat > (2 ^ 63 - 1) / 8 := by
    have : (sizeLine : Nat) ≤ (2 ^ 63 - 1) / 8 := by decide
    omega
  have hfit : ¬ (!Builtin.List.listFitsIndex k) = true := by
    rw [fitsIndex_both h1 h2]
    exact Bool.false_ne_true
  have hlong : ¬ Builtin.List.listTooLong (its.toArray.size * k.toNat) = true := by
    rw [notLongL hlen]
    exact Bool.false_ne_true
  have hnew : List.foldl (fun x1 x2 => x1 ++ x2) #[] (List.replicate (if its.toArray.isEmpty = true then 0 else k.toNat) its.toArray) = (List.replicate k.toNat its).flatten.toArray := by
    have f0 : ∀ m : Nat, List.foldl (fun x1 x2 => x1 ++ x2) #[] (List.replicate m its.toArray) = (List.replicate m its).flatten.toArray := fun m => by
      have := foldl_rep its m []
      rw [List.nil_append] at this
      exact this
    rw [f0]
    cases its with
    | nil => simp
    | cons a r' => rw [if_neg (by simp)]
  refine wpAny_binaryOp_repeat_ref (T := "list") (U := "int") (by decide) ⟨_, e, rfl⟩ (fun s' => typeIs_int s' k t) noFill_list_mul F.fills_int_mul F.slot_int_rmul repeat_list F.slot_int_index.lookup
    (call_meets F.slot_int_rmul (typeIs_int s k t) F.entry_int_rmul (F.args_int_rmul_2 _ _) (int___rmul___int_list k t l its.toArray n)
      ⟨e, rfl, ⟨_, e, rfl⟩, call_meets F.slot_list_mul ⟨_, e, rfl⟩ F.entry_list_mul (F.args_list_mul_2 _ _) (AutoListH.list___mul___list_int_3 l its.toArray n k t hfit hcap hlong) ⟨e, ?_⟩⟩)
  rw [hnew]
  exact ⟨.ref _, _, I.lnew (t' := s.toks) (r.rep k.toNat) (by rw [len_rep, Nat.mul_comm]; exact hz), rfl, q _ I.fresh⟩

/-! ### del xs[i] -/
end

/-! ### xs[a:b] = ys -/
section
variable {prog : Program} {w : World} {A : Around} {E : Value → Shared → Prop} {s : Shared}
end

section
variable {X : Cx}
end
end L2

namespace Att
open PySem PySem.W PySem.Calls PyProof.Rows

/-! ### the script -/
theorem ints_of_wellAll {P : Params} {h : Heap} : ∀ (ns : List Int) (vs : List Value), WellAll P h vs (ns.map WData.int) → IntsAre vs ns := by
  intro ns
  induction ns with
  | nil =>
    intro vs w
    rw [List.map_nil] at w
    cases w
    exact .nil
  | cons n ns ih =>
    intro vs w
    rw [List.map_cons] at w
    cases w with
    | cons a b =>
      cases a
      exact .cons _ _ (ih _ b)

theorem script_of {l : OpenLaw} {n : Nat} (hn : l.most = some n) {P : Params} {h : Heap} {args : List WData} {vals : List Value}
    (hpre : l.row.toRowW.claim.pre args = true) (hwl : WellAll P h vals args) :
    ∃ a vs ns, vals = [Value.ref a] ∧ args = [WData.list (ns.map WData.int)] ∧ h.get? a = some { cls := .type "list", data := .seq vs.toArray } ∧ IntsAre vs ns ∧ ns.length ≤ n := by
  have hsh : WShape.hasAll [] args [.list .int] = true := (pre_splitW hpre).1
  have hc : l.pre.holds [] { args := args } = true := (pre_splitW hpre).2
  obtain ⟨d, r, rfl, h1, h2⟩ := hasAllW_cons hsh
  obtain rfl := hasAllW_nil h2
  obtain ⟨xs, rfl, h3⟩ := hasW_list h1
  obtain ⟨ns, rfl⟩ := items_int h3
  have hlen : ns.length ≤ n := by
    unfold OpenLaw.pre at hc
    have h4 : (WTm.not (.lt (.lit (.int (n : Int))) (.len (.arg 0)))).holds [] { args := [.list (ns.map .int)] } = true := by
      have h4 := (holds_andW hc).1
      rw [hn] at h4
      exact h4
    have h5 := condW_of h4 (w_not (w_lt w_lit (w_len_list (w_arg rfl))))
    rw [List.length_map] at h5
    refine Nat.le_of_not_lt fun q => ?_
    have q' : (n : Int) < ((ns.length : Nat) : Int) := by omega
    first
      | (rw [decide_eq_true q'] at h5; exact absurd h5 (by decide))
      | (simp at h5; omega)
  cases hwl with
  | cons w1 w2 =>
    cases w2
    cases w1 with
    | list ho hall => exact ⟨_, _, ns, rfl, rfl, ho, ints_of_wellAll ns _ hall, hlen⟩

theorem post_true (l : OpenLaw) (args : List WData) : l.row.toRowW.claim.post args (.bool true) args = true :=
  postW_of (r := l.row.toRowW) (X := (true == true))
    (show WShape.has [] (.bool true) .bool = true by first | rfl | decide | simp [WShape.has, WShape.arms, WShape.armsAll])
    (show (WTm.eq .res (.lit (.bool true))).value [] { args := args, res := some (.bool true), after := args } = some (.bool (true == true)) from w_eq_bool (w_res rfl) w_lit) rfl

/-! ### the attachment: holds_open's last premise (the goal 'hc' behind k_head) from a wpAny of the law's body -/
/-- the same from a codeAny of the CALL (for a layer whose function contracts speak of calls) -/
theorem attach_call {l : OpenLaw} {n : Nat} {q : Program} {loose : List Str} {XP : (Str → Option Value) → Heap → Prop} {YP : World → Heap → Prop} {d : DefRec}
    (hn : l.most = some n) (hdf : d.params.defaults = [])
    (call : ∀ (w : World) (s₀ s₁ : Shared) (mg mb : Str → Option Value) (fa : Addr) (o : Obj) (pm cd doc : Value) (a : Addr) (vs : List Value) (ns : List Int),
      Ground q loose [] XP w s₀ mg mb s₁.heap → YP w s₁.heap →
      s₁.heap.get? fa = some o → o.data = .func (docDef d.name d.params d.body d.scope pm cd doc) → s₁.heap.CodeRec cd d.name → mg d.name = some (.ref fa) →
      s₁.heap.get? a = some { cls := .type "list", data := .seq vs.toArray } → IntsAre vs ns → ns.length ≤ n → s₁.gens = #[] →
      codeAny (model l.prog w) callerA (.call (.ref fa) ⟨[.ref a], []⟩) (fun r s' => r = .ok (.ret (.bool true)) ∧ OldK s₁.heap s'.heap ∧ s'.os = s₁.os ∧ AllBare s'.gens) s₁) :
    WalkO q loose XP YP l.row.toRowW d [] (fun f vs => PySem.call f vs) := by
  intro w s₀ s₁ mg mb G Y fa o pm cd doc dV kV ho hd hcd hD hmg hg args vals as hpre hlay hrd hwl hlo
  obtain rfl : dV = .none := Dflts.none hD hdf
  obtain rfl : kV = .none := Dflts.noKw hD
  obtain ⟨a, vs, ns, rfl, rfl, hobj, hints, hlen⟩ := script_of hn hpre hwl
  refine enter_call (codeAny_mono (call w s₀ s₁ mg mb fa o pm cd doc a vs ns G Y ho (fd_plain hd) hcd hmg hobj hints hlen hg) fun r s' hq => ?_)
  obtain ⟨rfl, h2, h3, h4⟩ := hq
  exact ⟨.inl ⟨.bool true, .bool true, [], rfl, fun _ => rfl, .bool true, post_true l _, fun _ => ⟨List.Pairwise.nil, fun _ hm => (nomatch hm)⟩⟩, h2, h3, h4⟩

/-! ### rules over ANY heap (no ledger) from facts about the written part K: the library's own take a ledger (News) for what they write -/
section
variable {prog : Program} {w : World} {A : Around} {E : Value → Shared → Prop} {s : Shared} {K : Frag}

/-! the whole heap as the ledger: makes every rule that writes through a ledger a rule over any heap -/
def ledger (h : Heap) (L d : Addr) : List (Addr × Obj) := (List.range h.objs.size).filterMap fun a => if a = L ∨ a = d then none else (h.get? a).map fun o => (a, o)
end
end Att

namespace L2
open PySem PySem.Spec PyProof.Rows

theorem vals_ints : ∀ {vs : List Value} {ns : List Int}, IntsAre vs ns → Vals (ns.map V.int) vs
  | _, _, .nil => .nil
  | _, _, .cons n t h => .cons ⟨t, rfl⟩ (vals_ints h)

/-- nothing is tracked but the script, known to the object (or it is an object of the module) -/
def Only (H : Hp) : Prop := ∀ b, H b = none ∨ ∃ o xs, H b = some (.frz o (.lst xs))

/-- THE HEAD: the law's promise, at the heap behind the top. F, the promise of the law's def, may use that base is part of the heap (so K.In base, base.Ns mainGlobals mg stand in Mod) -/
theorem law_call {P : Program} {w : World} {K : PySem.W.Frag} {mg mb : Str → Option Value} {CX : CXT} {k : Nat} {fa a : Addr} {fd : FuncData} {x : Str} {sp : Sp} {s₁ : Shared} {vs : List Value} {ns : List Int}
    (KX : K.In s₁.heap) (hns : s₁.heap.Ns mainGlobals mg) (hb : s₁.heap.Ns builtinsNs mb) (hbb : ∀ x : Str, x ≠ "__name__" → mb x = bootBuiltins x) (hlim : s₁.heap.NoLimit) (hg : s₁.gens = #[])
    (ha : s₁.heap.get? a = some { cls := .type "list", data := .seq vs.toArray }) (hi : IntsAre vs ns) (hl : ns.length ≤ sizeLine) (hr : Room k callerA)
    (F : ∀ base : Heap, K.In base → base.Ns mainGlobals mg → FnOk P w K mg base CX k fa fd [x] sp) (hbind : ∀ (s : Shared) (u : Value), BindsTo s fd ⟨[u], []⟩ [(x, u)])
    (hsp : ∀ H : Hp, Only H → SqL K H a (ns.map V.int) → sp [.ref a] H (fun v _ => v = .bl true) fun _ _ _ => False)
    (hCX : ∀ H e s', CX [] H s₁ (fun _ _ _ => False) e s' → False) :
    codeAny (model P w) callerA (.call (.ref fa) ⟨[.ref a], []⟩) (fun r s' => r = .ok (.ret (.bool true)) ∧ OldK s₁.heap s'.heap ∧ s'.os = s₁.os ∧ AllBare s'.gens) s₁ := by
  have rv := vals_ints hi
  have lenV := hi.length
  -- from an abstract heap in which nothing but the script may be tracked
  have core : ∀ H : Hp, Only H → SqL K H a (ns.map V.int) → HOk P w H s₁.heap → (∀ b, H b ≠ none → b = a) → (H a ≠ none → K.lookup a = none) →
      codeAny (model P w) callerA (.call (.ref fa) ⟨[.ref a], []⟩) (fun r s' => r = .ok (.ret (.bool true)) ∧ OldK s₁.heap s'.heap ∧ s'.os = s₁.os ∧ AllBare s'.gens) s₁ := by
    intro H hO hS hok hA hK
    have base_of : ∀ {b : Addr} {o : Obj}, s₁.heap.get? b = some o → H b = none → (hidT s₁.heap H).get? b = some o := fun e n => hidT_get e n
    have noA : ∀ {b : Addr} {o : Obj} {es : Array DictEntry} {ep : Nat}, s₁.heap.get? b = some o → o.data = .dict es ep → H b = none := fun {b o es ep} e d => by
      cases q : H b with
      | none => rfl
      | some u =>
        have e' : b = a := hA b (by rw [q]; simp)
        subst e'
        rw [ha] at e; cases e
        have d' : Data.seq vs.toArray _ = Data.dict es ep := d
        cases d'
    have nsK : ∀ {b : Addr} {m : Str → Option Value}, s₁.heap.Ns b m → (hidT s₁.heap H).Ns b m := fun {b m} ⟨o, es, ep, e, d, r⟩ => ⟨o, es, ep, base_of e (noA e d), d, r⟩
    have hKb : K.In (hidT s₁.heap H) := fun b o e => base_of (KX b o e) (by
      cases q : H b with
      | none => rfl
      | some u =>
        have e' : b = a := hA b (by rw [q]; simp)
        subst e'
        rw [hK (by rw [q]; simp)] at e; cases e)
    have hM : Mod K mg (hidT s₁.heap H) := ⟨hKb, nsK hns, ⟨mb, nsK hb, hbb⟩, let ⟨mc, h1, h2⟩ := hlim; ⟨mc, nsK h1, h2⟩⟩
    have e0 : Env0 P w K mg (hidT s₁.heap H) callerA [] s₁ H := ⟨rfl, hM, fun b o e => of_hidT e, Nat.le_of_eq (hidT_size _ _), trivial, fun b hb => absurd (show b ∈ ([] : List Addr) from hb) (by simp), hok, .of_eq hg⟩
    refine codeAny_mono ((F _ hKb (nsK hns)).run callerA [] s₁ H ⟨[.ref a], []⟩ [.ref a] [.ref a] _ _ hr e0 (hbind s₁ (.ref a)) (.cons rfl .nil) (hsp H hO hS)) fun r s' h => ?_
    cases r with
    | error e => exact (hCX H e s' h).elim
    | ok fl =>
      cases fl with
      | next => exact False.elim h
      | brk => exact False.elim h
      | cont => exact False.elim h
      | ret u =>
        obtain ⟨v, H', os, bare, un, hok', r', q⟩ := h
        have q' : v = .bl true := q
        subst q'
        obtain rfl : u = Value.bool true := r'
        refine ⟨rfl, OldK.of_keep fun b o e => ?_, os, bare⟩
        cases q : H b with
        | none => exact un.keep b o e q (by intro z; exact absurd (show b ∈ ([] : List Addr) from z) (by simp)) (by simp)
        | some u =>
          rcases hO b with z | ⟨ob, xs, z⟩
          · rw [q] at z; cases z
          · have z2 := un.frzs b ob _ z
            obtain ⟨e1, _⟩ := hok b _ z
            obtain ⟨e2, _⟩ := hok' b _ z2
            rw [e] at e1; cases e1
            exact e2
  cases hk : K.lookup a with
  | some o =>
    -- the script is one of the module's own objects
    have e := KX a o hk
    rw [ha] at e
    cases e
    refine core (fun _ => none) (fun _ => .inl rfl) (.inr ⟨_, vs.toArray, _, hk, rfl, rfl, rfl, by rw [List.size_toArray, lenV]; exact hl, by simpa using rv⟩) (fun b u z => by have z' : (none : Option HO) = some u := z; cases z') (fun b z => absurd rfl z) fun z => absurd rfl z
  | none =>
    refine core (fun b => if b = a then some (.frz { cls := .type "list", data := .seq vs.toArray } (.lst (ns.map V.int))) else none) (fun b => ?_) (.inl (.inr ⟨{ cls := .type "list", data := .seq vs.toArray }, if_pos rfl⟩)) (fun b u z => ?_) (fun b z => ?_) fun _ => hk
    · by_cases hb : b = a
      · exact .inr ⟨_, _, if_pos hb⟩
      · exact .inl (if_neg hb)
    · by_cases hb : b = a
      · have z' := (if_pos hb).symm.trans z
        cases z'
        subst hb
        exact ⟨ha, by rw [List.length_map]; exact hl, vs, _, rv, ha⟩
      · have z' := (if_neg hb).symm.trans z
        cases z'
    · by_cases hb : b = a
      · exact hb
      · exact absurd (if_neg hb) z
end L2

namespace L2
open PySem PySem.Spec PyProof.Rows

/-- the goal that k_head leaves (case hc), from the law's promise. F gives the function object fd (K's own) once, then the promise over every base -/
theorem walk_of {l : PySem.W.OpenLaw} {n k : Nat} {q : Program} {loose : List Str} {XP : (Str → Option Value) → Heap → Prop} {YP : World → Heap → Prop} {d : DefRec} {K : Params → PySem.W.Frag} {CX : World → CXT} {sp : World → Sp} {x : Str}
    (hn : l.most = some n) (hn2 : n ≤ sizeLine) (hdf : d.params.defaults = []) (hr : Room k callerA)
    (hY : ∀ (w : World) (h : Heap), YP w h → (K w.params).In h)
    (F : ∀ (w : World) (mg : Str → Option Value) (fa : Addr) (h : Heap), (K w.params).In h → h.Ns mainGlobals mg → mg d.name = some (.ref fa) →
      ∃ fd : FuncData, (∀ (s : Shared) (u : Value), BindsTo s fd ⟨[u], []⟩ [(x, u)]) ∧
        ∀ base : Heap, (K w.params).In base → base.Ns mainGlobals mg → FnOk l.prog w (K w.params) mg base (CX w) k fa fd [x] (sp w))
    (hsp : ∀ (w : World) (H : Hp) (a : Addr) (ns : List Int), ns.length ≤ n → Only H → SqL (K w.params) H a (ns.map V.int) → sp w [.ref a] H (fun v _ => v = .bl true) fun _ _ _ => False)
    (hCX : ∀ (w : World) (H : Hp) (s : Shared) (e : Value) (s' : Shared), CX w [] H s (fun _ _ _ => False) e s' → False) :
    PySem.W.WalkO q loose XP YP l.row.toRowW d [] (fun f vs => PySem.call f vs) := by
  refine Att.attach_call hn hdf fun w s₀ s₁ mg mb fa o pm cd doc a vs ns G Y ho hd hcd hmg hobj hints hlen hg => ?_
  have KX := hY w _ Y
  obtain ⟨fd, hb, hF⟩ := F w mg fa _ KX G.T.g hmg
  exact law_call KX G.T.g G.T.b G.T.builtins G.T.nolimit hg hobj hints (Nat.le_trans hlen hn2) hr hF hb (fun H hO hS => hsp w H a ns hlen hO hS) fun H e s' => hCX w H s₁ e s'
end L2


/-! SHORT WORDS over the layer: a def of the text, its body, what a loop and a test want. -/
namespace L2
open PySem PySem.Spec PyProof.Rows

/-! ### the text by places -/
/-- the j-th statement of a class's body -/
def inClass (s : Stmt) (j : Nat) : Stmt := match s with
  | .ClassDef _ _ _ body _ _ _ _ _ _ _ => body.getD j (.Pass ⟨0, 0, 0, 0⟩)
  | _ => .Pass ⟨0, 0, 0, 0⟩
def defArgs (s : Stmt) : Arguments := match s with
  | .FunctionDef _ a _ _ _ _ _ _ _ _ => a
  | _ => { posonlyargs := [], args := [], vararg := none, kwonlyargs := [], kw_defaults := [], kwarg := none, defaults := [] }
def defBody (s : Stmt) : List Stmt := match s with
  | .FunctionDef _ _ b _ _ _ _ _ _ _ => b
  | _ => []
def defScope (s : Stmt) : Scope := match s with
  | .FunctionDef _ _ _ _ _ _ sc _ _ _ => sc
  | _ => { kind := .function, names := [], isGenerator := false, isCoroutine := false }

/-! ### no exception leaves a def -/
abbrev CX0 : CXT := fun _ _ _ _ _ _ => False
abbrev E0 : XK := fun _ _ _ => False
theorem pass0 {X : Cx} : Passes CX0 X E0 := fun _ _ _ _ _ _ _ h => h.elim

/-! ### a def (or method) of the text as it stands behind the top -/
structure Fun (K : PySem.W.Frag) (x qual : Str) (st : Stmt) (f : Addr) (fd : FuncData) : Prop where
  ex : ∃ (oc : Value) (od : Option Addr) (kV doc pm : Value) (an : Option Addr) (cdv ct : Value) (osl : Array (Option Value)),
    fd = PySem.W.fnOf x qual (defArgs st) (defBody st) (defScope st) .none kV doc pm an cdv ct ∧ K.lookup f = some ⟨oc, od, .func fd, osl⟩ ∧ PySem.W.codeIn K cdv qual = true
  kp : PySem.W.keepIn K (.ref f) = true
section
variable {P : Program} {w : World} {K : PySem.W.Frag} {mg : Str → Option Value} {base : Heap}
/-- THE RULE for a def: its body as a term of rules, and the reading of that term -/
theorem Fun.ok {x qual : Str} {st : Stmt} {f : Addr} {fd : FuncData} {N ps : List Str} {k : Nat} {sp : Sp} (F : Fun K x qual st f fd) (S : FnScope N ps (defScope st)) (len : ∀ vs H Q E, sp vs H Q E → vs.length = ps.length)
    (hbody : ∀ (cdv : Value) (A : Around) (outer : List Env) (s : Shared) (H : Hp) (vs : List V) (Q : VK) (E : XK), Room k (A.deeper (envOfC qual (defScope st) s.heap.objs.size f cdv)) → sp vs H Q E →
      ∃ t, PSs (cxOf CX0 P w K mg base N qual (defScope st) f cdv A outer s H E).nox (defBody st) t ∧ t { nx := fun _ H' => Q .non H', rt := Q } (start N vs) H) : FnOk P w K mg base CX0 (k + 1) f fd ps sp := by
  obtain ⟨oc, od, kV, doc, pm, an, cdv, ct, osl, rfl, lk, hcd⟩ := F.ex
  refine fn_of lk hcd S len fun A outer s H vs Q E hr hsp => ?_
  obtain ⟨t, h, q⟩ := hbody cdv A outer s H vs Q E hr hsp
  exact ⟨t, h.nox, q⟩
/-- how its arguments bind (no defaults): h is «fun _ _ _ _ _ _ us hl => match us, hl with | [_, _], _ => rfl», one _ a parameter -/
theorem Fun.binds {x qual : Str} {st : Stmt} {f : Addr} {fd : FuncData} {ps : List Str} (F : Fun K x qual st f fd)
    (h : ∀ (kV doc pm : Value) (an : Option Addr) (cdv ct : Value) (us : List Value), us.length = ps.length → bindArgs (PySem.W.fnOf x qual (defArgs st) (defBody st) (defScope st) .none kV doc pm an cdv ct) ⟨us, []⟩ = pure (ps.zip us)) : Binds K fd ps [] := by
  obtain ⟨oc, od, kV, doc, pm, an, cdv, ct, osl, rfl, lk, hcd⟩ := F.ex
  exact .all (h kV doc pm an cdv ct)
theorem fun_mk {x qual : Str} {st : Stmt} {f : Addr} {oc : Value} {od an : Option Addr} {osl : Array (Option Value)} {kV doc pm cdv ct : Value} (l : K.lookup f = some ⟨oc, od, .func (PySem.W.fnOf x qual (defArgs st) (defBody st) (defScope st) .none kV doc pm an cdv ct), osl⟩)
    (c : PySem.W.codeIn K cdv qual = true) (k : PySem.W.keepIn K (.ref f) = true) : Fun K x qual st f (PySem.W.fnOf x qual (defArgs st) (defBody st) (defScope st) .none kV doc pm an cdv ct) := ⟨⟨oc, od, kV, doc, pm, an, cdv, ct, osl, rfl, l, c⟩, k⟩
end
theorem hu_of {A : Around} {k : Nat} (hr : Room k A) : A.units + 1 < cLine := Nat.lt_of_le_of_lt (Nat.add_le_add_left (by decide : 1 ≤ 64) _) hr.units
/-! ### expressions in short: the name that stands in the i-th slot -/
section
variable {X : Cx}
theorem pv (i : Nat) {x : Str} {pos : Pos} (hN : X.N[i]? = some x := by rfl) (hv : Vis X.env.scope x := by first | exact Or.inl rfl | exact Or.inr (Or.inl rfl) | exact Or.inr (Or.inr rfl)) (hd : (x == ("__debug__" : Str)) = false := by decide)
    (hcd : (x == ("__classdict__" : Str)) = false := by decide) : PE X (.Name x pos) (tVar i) := pe_var hN hv hd hcd
end

/-! ### tests -/
theorem iteF {A B : Prop} (h : B) : if false = true then A else B := by
  rw [if_neg Bool.false_ne_true]
  exact h
theorem iteT {A B : Prop} (h : A) : if true = true then A else B := by
  rw [if_pos rfl]
  exact h
/-! ### heaps -/
/-- all that was tracked is as it was -/
def Same (H H' : Hp) : Prop := ∀ b o, H b = some o → H' b = some o
theorem Same.refl (H : Hp) : Same H H := fun _ _ h => h
theorem Same.trans {H H1 H2 : Hp} (a : Same H H1) (b : Same H1 H2) : Same H H2 := fun c o h => b c o (a c o h)
theorem Same.free {H H' : Hp} (e : Same H H') {l : Addr} (h : H' l = Option.none) : H l = Option.none := by
  cases q : H l with
  | none => rfl
  | some o =>
    rw [e l o q] at h
    cases h
theorem Same.seq {K : PySem.W.Frag} {H H' : Hp} {a : Addr} {xs : List V} (e : Same H H') (h : SqL K H a xs) : SqL K H' a xs := by
  rcases h with (h | ⟨o, h⟩) | h
  · exact .inl (.inl (e _ _ h))
  · exact .inl (.inr ⟨o, e _ _ h⟩)
  · exact .inr h

end L2
/-! RULES OF OUR OWN over the layer: isinstance, == of data, // and << of great numbers, and a word for each reading (i_..), so that a reading goes step by step. -/
namespace L2
open PySem PySem.Spec PyProof.Rows

/-! ### isinstance -/
section
variable {X : Cx}
theorem call_isinst : CallR X (.builtin "isinstance") (fun xs H Q => ∃ x cv t c k, xs = [x, cv] ∧ RelV cv c ∧ (∀ u, RelV cv u → u = c) ∧ TyOf X.K H x t ∧ PySem.W.kitOne X.K t c = some k ∧ Q (.bl k) H) := by
  intro pins s σ H xs us Q I r h
  obtain ⟨x, cv, t, c, k, rfl, _, hc, ty, e, q⟩ := h
  obtain ⟨u, u', rfl, rx, rc⟩ := vals2 r
  obtain rfl := hc u' rc
  exact isinst_ok I rx ty e fun tk => ⟨.bl k, H, I.tok tk, rfl, q⟩

theorem pe_bty {x : Str} {T : String} {pos : Pos} (hg : Gl X x) (hm : X.mg x = none) (hv : bootBuiltins x = some (.type T)) (hn : x ≠ "__name__" := by decide) (hd : (x == ("__debug__" : Str)) = false := by decide) : PE X (.Name x pos) (tC (.ty T)) := pe_bltn hg hm hv rfl hn hd
theorem pe_gint {x : Str} {i : Int} {t : Tok} {pos : Pos} (hg : Gl X x) (hm : X.mg x = some (.int i t)) (hd : (x == ("__debug__" : Str)) = false := by decide) : PE X (.Name x pos) (tC (.int i)) := pe_glob hg hm ⟨t, rfl⟩ hd
theorem pe_gref {x : Str} {C : Addr} {pos : Pos} (hg : Gl X x) (hm : X.mg x = some (.ref C)) (hd : (x == ("__debug__" : Str)) = false := by decide) : PE X (.Name x pos) (tC (.ref C)) := pe_glob hg hm rfl hd

/-! ### == of data: ints, truths, texts, None, lists and tuples of such -/
mutual
inductive RdV (K : PySem.W.Frag) (H : Hp) : V → PyData → Prop
  | non : RdV K H .non .none
  | bl (b) : RdV K H (.bl b) (.bool b)
  | int (i) : RdV K H (.int i) (.int i)
  | str (x) : RdV K H (.str x) (.str x)
  | lst {a xs ds} : SqL K H a xs → RdVs K H xs ds → RdV K H (.ref a) (.list ds)
  | tup {a xs ds} : SqT K H a xs → RdVs K H xs ds → RdV K H (.ref a) (.tuple ds)
inductive RdVs (K : PySem.W.Frag) (H : Hp) : List V → List PyData → Prop
  | nil : RdVs K H [] []
  | cons {x xs d ds} : RdV K H x d → RdVs K H xs ds → RdVs K H (x :: xs) (d :: ds)
end
mutual
theorem RdV.reads {pins : List (Addr × Obj)} {σ : St} {H : Hp} {s : Shared} (I : Inv X pins σ H s) : ∀ {x : V} {d : PyData} {u : Value}, RdV X.K H x d → RelV x u → ∃ as, Reads s.heap u d as
  | _, _, _, .non, r => by cases r; exact ⟨_, .none⟩
  | _, _, _, .bl _, r => by cases r; exact ⟨_, .bool _⟩
  | _, _, _, .int _, r => by obtain ⟨t, rfl⟩ := r; exact ⟨_, .int _ _⟩
  | _, _, _, .str _, r => by obtain ⟨t, rfl⟩ := r; exact ⟨_, .str _ _⟩
  | _, _, _, .lst hq hs, r => by
    cases r
    obtain ⟨its, rv, ⟨o, n, h1, h2, h3, h4⟩, hz⟩ := I.list hq
    obtain ⟨as, ra⟩ := RdVs.reads I hs rv
    exact ⟨_, .list h1 h2 h4 (by simpa using ra)⟩
  | _, _, _, .tup hq hs, r => by
    cases r
    obtain ⟨its, rv, ⟨o, h1, h2, n, h4⟩, hz⟩ := I.tuple hq
    obtain ⟨as, ra⟩ := RdVs.reads I hs rv
    exact ⟨_, .tuple h1 h2 h4 (by simpa using ra)⟩
theorem RdVs.reads {pins : List (Addr × Obj)} {σ : St} {H : Hp} {s : Shared} (I : Inv X pins σ H s) : ∀ {xs : List V} {ds : List PyData} {us : List Value}, RdVs X.K H xs ds → Vals xs us → ∃ as, ReadsAll s.heap us ds as
  | _, _, _, .nil, .nil => ⟨_, .nil⟩
  | _, _, _, .cons h hs, .cons r rs => by
    obtain ⟨as, ra⟩ := RdV.reads I h r
    obtain ⟨bs, rb⟩ := RdVs.reads I hs rs
    exact ⟨_, .cons ra rb⟩
end
def rEqD (K : PySem.W.Frag) (g : Bool → Bool) : R2 := fun x y H Q => ∃ d e, RdV K H x d ∧ RdV K H y e ∧ SeqAt.shaped d = true ∧ SeqAt.shaped e = true ∧ Q (.bl (g (PyData.eqv d e))) H
theorem op_eqD (hu : X.A.units + 64 < cLine) : OpR X (compareOp .Eq) (rEqD X.K fun b => b) := by
  intro pins s σ H x y v u Q I rx ry h
  obtain ⟨d, e, h1, h2, s1, s2, q⟩ := h
  obtain ⟨as, ra⟩ := h1.reads I rx
  obtain ⟨bs, rb⟩ := h2.reads I ry
  exact eq_dataH ra rb s1 s2 hu ⟨.bl _, H, I, rfl, q⟩
theorem op_neD (hu : X.A.units + 64 < cLine) : OpR X (compareOp .NotEq) (rEqD X.K fun b => !b) := by
  intro pins s σ H x y v u Q I rx ry h
  obtain ⟨d, e, h1, h2, s1, s2, q⟩ := h
  obtain ⟨as, ra⟩ := h1.reads I rx
  obtain ⟨bs, rb⟩ := h2.reads I ry
  exact ne_dataH ra rb s1 s2 hu ⟨.bl _, H, I, rfl, q⟩
theorem rdVs_ints {K : PySem.W.Frag} {H : Hp} : ∀ ns : List Int, RdVs K H (ns.map V.int) (ns.map PyData.int)
  | [] => .nil
  | n :: r => .cons (.int n) (rdVs_ints r)
theorem canLay_ints : ∀ ns : List Int, PyData.canLayAll0 (ns.map PyData.int) = true
  | [] => rfl
  | _ :: r => by simp [PyData.canLayAll0, PyData.canLay0, canLay_ints r]
theorem depth_ints : ∀ ns : List Int, PyData.depthAll (ns.map PyData.int) = 0
  | [] => rfl
  | _ :: r => by simp [PyData.depthAll, PyData.depth, depth_ints r]
theorem shaped_lst (ns : List Int) : SeqAt.shaped (.list (ns.map PyData.int)) = true := by
  simp [SeqAt.shaped, PyData.canLay0, PyData.depth, canLay_ints, depth_ints]
theorem eqvAll_ints : ∀ ns ms : List Int, PyData.eqvAll (ns.map PyData.int) (ms.map PyData.int) = decide (ns = ms)
  | [], [] => by simp [PyData.eqvAll]
  | [], _ :: _ => by simp [PyData.eqvAll]
  | _ :: _, [] => by simp [PyData.eqvAll]
  | a :: r, b :: t => by
    simp only [List.map_cons, PyData.eqvAll, PyData.eqv, eqvAll_ints r t]
    by_cases h : a = b <;> by_cases h' : r = t <;> simp [h, h']
/-- lists of ints, tuples of ints -/
theorem i_eqL {K : PySem.W.Frag} {g : Bool → Bool} {H : Hp} {Q : VK} {a b : Addr} (ns ms : List Int) (ha : SqL K H a (ns.map V.int)) (hb : SqL K H b (ms.map V.int)) (h : Q (.bl (g (decide (ns = ms)))) H) : rEqD K g (.ref a) (.ref b) H Q :=
  ⟨_, _, .lst ha (rdVs_ints ns), .lst hb (rdVs_ints ms), shaped_lst ns, shaped_lst ms, by rw [PyData.eqv, eqvAll_ints]; exact h⟩
/-! ### // by a great positive number, << of a great number -/
def CDivB (_ j : Int) : Prop := 0 < j ∧ j < 2 ^ 200
theorem op_fdivB : OpR X (binaryOp .FloorDiv) (rI CDivB fun i j => .int (i / j)) := opI fun i j _ _ _ _ _ hc q => by
  obtain ⟨h1, h2⟩ := hc
  refine floordiv_int (by omega) ?_ (.inl (PyProof.noPylong_of_log2 ?_))
  · rw [Int.fdiv_eq_ediv_of_nonneg _ (by omega)]; exact q
  · have e : j.natAbs < 2 ^ 200 := by omega
    have e' : j.natAbs ≠ 0 := by omega
    have := (Nat.log2_lt e').mpr e
    omega
/-- a power of two written numbers -/
def rPowC (k : Int) : R2 := fun x y H Q => ∃ i j, x = .int i ∧ y = .int j ∧ CPow i j ∧ i ^ j.toNat = k ∧ Q (.int k) H
theorem op_powC (k : Int) : OpR X (binaryOp .Pow) (rPowC k) := by
  intro pins s σ H x y v u Q I rx ry h
  obtain ⟨i, j, rfl, rfl, hc, e, q⟩ := h
  exact op_pow pins s σ H (.int i) (.int j) v u Q I rx ry ⟨i, j, rfl, rfl, hc, by show Q (.int (i ^ j.toNat)) H; rw [e]; exact q⟩
/-- a statement by a word that holds behind it -/
def tMid (t : TS) : TS := fun D σ H => ∃ M : St → Hp → Prop, t { D with nx := M } σ H ∧ ∀ σ' H', M σ' H' → D.nx σ' H'
theorem ps_mid {st : Stmt} {t : TS} (h : PS X st t) : PS X st (tMid t) := by
  refine .mk fun pins s σ H D I ⟨M, h1, h2⟩ => ?_
  refine thn (h pins s σ H { D with nx := M } I h1) fun f s1 q => ?_
  cases f with
  | next =>
    obtain ⟨σ', H', I', q⟩ := q
    exact ⟨σ', H', I', h2 σ' H' q⟩
  | ret v => exact q
  | brk => exact q
  | cont => exact q
end

/-- a wish about what stands behind, kept from being reckoned on the way -/
def After (nx : St → Hp → Prop) (σ : St) (H : Hp) : Prop := nx σ H

/-! ### a word for each reading -/
section
variable {K : PySem.W.Frag} {σ : St} {H : Hp} {Q : VK} {QB : Bool → Hp → Prop} {QL : List V → Hp → Prop} {v x y : V} {i j : Int} {b : Bool} {ta tb tc te : TE} {t u : TS} {tA tB' : TT} {tr : TA} {D : Ends}
  {nx bk ct : St → Hp → Prop} {rt : VK} {A B : Prop}
theorem i_start {N : List Str} {vs : List V} {σ' : St} (e : start N vs = σ') (h : t D σ' H) : t D (start N vs) H := by rw [e]; exact h
theorem i_var {k : Nat} (e : σ[k]? = some (some v)) (h : Q v H) : tVar k σ H Q := ⟨v, e, h⟩
theorem i_c (h : Q v H) : tC v σ H Q := h
theorem i_op {r : R2} (h : ta σ H fun x H1 => tb σ H1 fun y H2 => r x y H2 Q) : tOp r ta tb σ H Q := h
theorem i_un {r : V → Hp → VK → Prop} (h : ta σ H fun x H1 => r x H1 Q) : tUn r ta σ H Q := h
theorem i_I0 {g : Int → Int → V} (h : Q (g i j) H) : rI0 g (.int i) (.int j) H Q := ⟨i, j, rfl, rfl, h⟩
theorem i_I {C : Int → Int → Prop} {g : Int → Int → V} (hc : C i j) (h : Q (g i j) H) : rI C g (.int i) (.int j) H Q := ⟨i, j, rfl, rfl, hc, h⟩
theorem i_U {g : Int → V} (h : Q (g i) H) : rU g (.int i) H Q := ⟨i, rfl, h⟩
theorem i_eqI (h : Q (.bl (decide (i = j))) H) : rEq (.int i) (.int j) H Q := ⟨rfl, by
  have e : decide (V.int i = V.int j) = decide (i = j) := by simp
  rw [e]; exact h⟩
theorem i_neI (h : Q (.bl (!decide (i = j))) H) : rNe (.int i) (.int j) H Q := ⟨rfl, by
  have e : decide (V.int i = V.int j) = decide (i = j) := by simp
  rw [e]; exact h⟩
theorem i_test (h : ta σ H fun x H' => ∃ k, x = .bl k ∧ QB k H') : tTest ta σ H QB := h
theorem i_tB (h : ta σ H fun x H' => ∃ k, x = .bl k ∧ QB k H') : tB ta σ H QB := h
theorem i_bl {P : Bool → Prop} (h : P b) : ∃ k, V.bl b = V.bl k ∧ P k := ⟨b, rfl, h⟩
theorem i_chain {r r' : R2} (h : ta σ H fun x H1 => tb σ H1 fun y H2 => r x y H2 fun z H3 => ∃ k, z = .bl k ∧ (if k = true then tc σ H3 fun w' H4 => r' y w' H4 Q else Q (.bl false) H3)) : tChain r r' ta tb tc σ H Q := h
theorem i_andV (h : ta σ H fun x H1 => ∃ c, x = .bl c ∧ if c = true then tb σ H1 Q else Q (.bl false) H1) : tAndV ta tb σ H Q := h
theorem i_orV (h : ta σ H fun x H1 => ∃ c, x = .bl c ∧ if c = true then Q (.bl true) H1 else tb σ H1 Q) : tOrV ta tb σ H Q := h
theorem i_notV (h : ta σ H fun x H1 => ∃ c, x = .bl c ∧ Q (.bl (!c)) H1) : tNotV ta σ H Q := h
theorem i_and {t1 t2 : TT} (h : t1 σ H fun c H1 => if c = true then t2 σ H1 QB else QB false H1) : tAnd t1 t2 σ H QB := h
theorem i_or {t1 t2 : TT} (h : t1 σ H fun c H1 => if c = true then QB true H1 else t2 σ H1 QB) : tOr t1 t2 σ H QB := h
theorem i_not {t1 : TT} (h : t1 σ H fun c H1 => QB (!c) H1) : tNot t1 σ H QB := h
theorem i_ifE (h : tA σ H fun c H1 => if c = true then ta σ H1 Q else tb σ H1 Q) : tIf tA ta tb σ H Q := h
theorem i_seq (h : t ⟨u D, D.rt, D.bk, D.ct⟩ σ H) : tSeq t u D σ H := h
theorem i_next (h : nx σ H) : tNext ⟨nx, rt, bk, ct⟩ σ H := h
theorem i_ret (h : te σ H rt) : tRet te ⟨nx, rt, bk, ct⟩ σ H := h
theorem i_retN (h : rt .non H) : tRetN ⟨nx, rt, bk, ct⟩ σ H := h
theorem i_drop (h : te σ H fun _ H1 => nx σ H1) : tDrop te ⟨nx, rt, bk, ct⟩ σ H := h
theorem i_if (h : tA σ H fun c H1 => if c = true then t D σ H1 else u D σ H1) : tIfS tA t u D σ H := h
theorem i_mid {t : TS} (M : St → Hp → Prop) (h1 : t ⟨M, rt, bk, ct⟩ σ H) (h2 : ∀ σ' H', M σ' H' → nx σ' H') : tMid t ⟨nx, rt, bk, ct⟩ σ H := ⟨M, h1, h2⟩
theorem i_asg {g : TG} (h : te σ H fun x H1 => g x σ H1 nx) : tAsg te g ⟨nx, rt, bk, ct⟩ σ H := h
theorem i_call {sp : Sp} {dvs : List V} {E : XK} (h : tr σ H fun vs H1 => sp (vs ++ dvs) H1 Q E) : tCall sp dvs E tr σ H Q := h
theorem i_cons (h : ta σ H fun x H1 => tr σ H1 fun xs H2 => QL (x :: xs) H2) : tCons ta tr σ H QL := h
theorem i_nil (h : QL [] H) : tNil σ H QL := h
theorem i_cb {r : List V → Hp → VK → Prop} (h : tr σ H fun vs H1 => r vs H1 Q) : tCB r tr σ H Q := h
theorem i_tup (h : tr σ H fun xs H1 => xs.length ≤ sizeLine ∧ ∀ p, H1 p = none → Q (.ref p) (upd H1 p (.tup xs))) : tTup tr σ H Q := h
theorem i_lst (h : tr σ H fun xs H1 => xs.length ≤ sizeLine ∧ ∀ p, H1 p = none → Q (.ref p) (upd H1 p (.lst xs))) : tLst tr σ H Q := h
theorem i_meth {C : Addr} {m : Str} {sp : Sp} {dvs : List V} {E : XK} (h : ta σ H fun x H1 => ∃ a dx fs, x = .ref a ∧ H1 a = some (.ins C dx fs) ∧ fs.lookup m = none ∧ tr σ H1 fun vs H2 => sp (x :: (vs ++ dvs)) H2 Q E) : tMeth C m sp dvs E ta tr σ H Q := h
theorem i_fld {f : Str} (h : ta σ H fun x H1 => ∃ a C dx fs v, x = .ref a ∧ H1 a = some (.ins C dx fs) ∧ Cls K C ∧ NoAttr K C f ∧ fs.lookup f = some v ∧ Q v H1) : tFld K ta f σ H Q := h
theorem i_sfld {f : Str} (h : tb σ H fun y H1 => ta σ H1 fun x H2 => ∃ a C dx fs, x = .ref a ∧ H2 a = some (.ins C dx fs) ∧ Cls K C ∧ NoAttr K C f ∧ fs.length < 1000 ∧ After nx σ (upd H2 a (.ins C dx (putF f y fs)))) : sFld K ta tb f ⟨nx, rt, bk, ct⟩ σ H := h
theorem i_sl {r : V → Option Int → Option Int → Hp → VK → Prop} {tl th : TO} (h : te σ H fun x H1 => tl σ H1 fun l H2 => th σ H2 fun u H3 => r x l u H3 Q) : tSl r te tl th σ H Q := h
theorem i_noPart {QO : Option Int → Hp → Prop} (h : QO none H) : tNoPart σ H QO := h
theorem i_part {QO : Option Int → Hp → Prop} (h : ta σ H fun x H1 => ∃ i, x = .int i ∧ QO (some i) H1) : tPart ta σ H QO := h
theorem i_int {P : Int → Prop} (h : P i) : ∃ k, V.int i = V.int k ∧ P k := ⟨i, rfl, h⟩
theorem i_nonA (h : A) : V.non = V.non ∧ A := ⟨rfl, h⟩
theorem g0 {a0 : Option V} {r : St} {N : St → Hp → Prop} (h : N (some v :: r) H) : gName 0 v (a0 :: r) H N := h
theorem g1 {a0 a1 : Option V} {r : St} {N : St → Hp → Prop} (h : N (a0 :: some v :: r) H) : gName 1 v (a0 :: a1 :: r) H N := h
theorem g2 {a0 a1 a2 : Option V} {r : St} {N : St → Hp → Prop} (h : N (a0 :: a1 :: some v :: r) H) : gName 2 v (a0 :: a1 :: a2 :: r) H N := h
theorem g3 {a0 a1 a2 a3 : Option V} {r : St} {N : St → Hp → Prop} (h : N (a0 :: a1 :: a2 :: some v :: r) H) : gName 3 v (a0 :: a1 :: a2 :: a3 :: r) H N := h
theorem g4 {a0 a1 a2 a3 a4 : Option V} {r : St} {N : St → Hp → Prop} (h : N (a0 :: a1 :: a2 :: a3 :: some v :: r) H) : gName 4 v (a0 :: a1 :: a2 :: a3 :: a4 :: r) H N := h
theorem g5 {a0 a1 a2 a3 a4 a5 : Option V} {r : St} {N : St → Hp → Prop} (h : N (a0 :: a1 :: a2 :: a3 :: a4 :: some v :: r) H) : gName 5 v (a0 :: a1 :: a2 :: a3 :: a4 :: a5 :: r) H N := h
theorem g6 {a0 a1 a2 a3 a4 a5 a6 : Option V} {r : St} {N : St → Hp → Prop} (h : N (a0 :: a1 :: a2 :: a3 :: a4 :: a5 :: some v :: r) H) : gName 6 v (a0 :: a1 :: a2 :: a3 :: a4 :: a5 :: a6 :: r) H N := h
theorem g7 {a0 a1 a2 a3 a4 a5 a6 a7 : Option V} {r : St} {N : St → Hp → Prop} (h : N (a0 :: a1 :: a2 :: a3 :: a4 :: a5 :: a6 :: some v :: r) H) : gName 7 v (a0 :: a1 :: a2 :: a3 :: a4 :: a5 :: a6 :: a7 :: r) H N := h
theorem g8 {a0 a1 a2 a3 a4 a5 a6 a7 a8 : Option V} {r : St} {N : St → Hp → Prop} (h : N (a0 :: a1 :: a2 :: a3 :: a4 :: a5 :: a6 :: a7 :: some v :: r) H) : gName 8 v (a0 :: a1 :: a2 :: a3 :: a4 :: a5 :: a6 :: a7 :: a8 :: r) H N := h
theorem g9 {a0 a1 a2 a3 a4 a5 a6 a7 a8 a9 : Option V} {r : St} {N : St → Hp → Prop} (h : N (a0 :: a1 :: a2 :: a3 :: a4 :: a5 :: a6 :: a7 :: a8 :: some v :: r) H) : gName 9 v (a0 :: a1 :: a2 :: a3 :: a4 :: a5 :: a6 :: a7 :: a8 :: a9 :: r) H N := h
theorem g10 {a0 a1 a2 a3 a4 a5 a6 a7 a8 a9 a10 : Option V} {r : St} {N : St → Hp → Prop} (h : N (a0 :: a1 :: a2 :: a3 :: a4 :: a5 :: a6 :: a7 :: a8 :: a9 :: some v :: r) H) : gName 10 v (a0 :: a1 :: a2 :: a3 :: a4 :: a5 :: a6 :: a7 :: a8 :: a9 :: a10 :: r) H N := h
theorem g11 {a0 a1 a2 a3 a4 a5 a6 a7 a8 a9 a10 a11 : Option V} {r : St} {N : St → Hp → Prop} (h : N (a0 :: a1 :: a2 :: a3 :: a4 :: a5 :: a6 :: a7 :: a8 :: a9 :: a10 :: some v :: r) H) : gName 11 v (a0 :: a1 :: a2 :: a3 :: a4 :: a5 :: a6 :: a7 :: a8 :: a9 :: a10 :: a11 :: r) H N := h
theorem g12 {a0 a1 a2 a3 a4 a5 a6 a7 a8 a9 a10 a11 a12 : Option V} {r : St} {N : St → Hp → Prop} (h : N (a0 :: a1 :: a2 :: a3 :: a4 :: a5 :: a6 :: a7 :: a8 :: a9 :: a10 :: a11 :: some v :: r) H) : gName 12 v (a0 :: a1 :: a2 :: a3 :: a4 :: a5 :: a6 :: a7 :: a8 :: a9 :: a10 :: a11 :: a12 :: r) H N := h
theorem g13 {a0 a1 a2 a3 a4 a5 a6 a7 a8 a9 a10 a11 a12 a13 : Option V} {r : St} {N : St → Hp → Prop} (h : N (a0 :: a1 :: a2 :: a3 :: a4 :: a5 :: a6 :: a7 :: a8 :: a9 :: a10 :: a11 :: a12 :: some v :: r) H) : gName 13 v (a0 :: a1 :: a2 :: a3 :: a4 :: a5 :: a6 :: a7 :: a8 :: a9 :: a10 :: a11 :: a12 :: a13 :: r) H N := h
theorem g14 {a0 a1 a2 a3 a4 a5 a6 a7 a8 a9 a10 a11 a12 a13 a14 : Option V} {r : St} {N : St → Hp → Prop} (h : N (a0 :: a1 :: a2 :: a3 :: a4 :: a5 :: a6 :: a7 :: a8 :: a9 :: a10 :: a11 :: a12 :: a13 :: some v :: r) H) : gName 14 v (a0 :: a1 :: a2 :: a3 :: a4 :: a5 :: a6 :: a7 :: a8 :: a9 :: a10 :: a11 :: a12 :: a13 :: a14 :: r) H N := h
theorem g15 {a0 a1 a2 a3 a4 a5 a6 a7 a8 a9 a10 a11 a12 a13 a14 a15 : Option V} {r : St} {N : St → Hp → Prop} (h : N (a0 :: a1 :: a2 :: a3 :: a4 :: a5 :: a6 :: a7 :: a8 :: a9 :: a10 :: a11 :: a12 :: a13 :: a14 :: some v :: r) H) : gName 15 v (a0 :: a1 :: a2 :: a3 :: a4 :: a5 :: a6 :: a7 :: a8 :: a9 :: a10 :: a11 :: a12 :: a13 :: a14 :: a15 :: r) H N := h
theorem g16 {a0 a1 a2 a3 a4 a5 a6 a7 a8 a9 a10 a11 a12 a13 a14 a15 a16 : Option V} {r : St} {N : St → Hp → Prop} (h : N (a0 :: a1 :: a2 :: a3 :: a4 :: a5 :: a6 :: a7 :: a8 :: a9 :: a10 :: a11 :: a12 :: a13 :: a14 :: a15 :: some v :: r) H) : gName 16 v (a0 :: a1 :: a2 :: a3 :: a4 :: a5 :: a6 :: a7 :: a8 :: a9 :: a10 :: a11 :: a12 :: a13 :: a14 :: a15 :: a16 :: r) H N := h
theorem g17 {a0 a1 a2 a3 a4 a5 a6 a7 a8 a9 a10 a11 a12 a13 a14 a15 a16 a17 : Option V} {r : St} {N : St → Hp → Prop} (h : N (a0 :: a1 :: a2 :: a3 :: a4 :: a5 :: a6 :: a7 :: a8 :: a9 :: a10 :: a11 :: a12 :: a13 :: a14 :: a15 :: a16 :: some v :: r) H) : gName 17 v (a0 :: a1 :: a2 :: a3 :: a4 :: a5 :: a6 :: a7 :: a8 :: a9 :: a10 :: a11 :: a12 :: a13 :: a14 :: a15 :: a16 :: a17 :: r) H N := h
theorem g18 {a0 a1 a2 a3 a4 a5 a6 a7 a8 a9 a10 a11 a12 a13 a14 a15 a16 a17 a18 : Option V} {r : St} {N : St → Hp → Prop} (h : N (a0 :: a1 :: a2 :: a3 :: a4 :: a5 :: a6 :: a7 :: a8 :: a9 :: a10 :: a11 :: a12 :: a13 :: a14 :: a15 :: a16 :: a17 :: some v :: r) H) : gName 18 v (a0 :: a1 :: a2 :: a3 :: a4 :: a5 :: a6 :: a7 :: a8 :: a9 :: a10 :: a11 :: a12 :: a13 :: a14 :: a15 :: a16 :: a17 :: a18 :: r) H N := h
theorem g19 {a0 a1 a2 a3 a4 a5 a6 a7 a8 a9 a10 a11 a12 a13 a14 a15 a16 a17 a18 a19 : Option V} {r : St} {N : St → Hp → Prop} (h : N (a0 :: a1 :: a2 :: a3 :: a4 :: a5 :: a6 :: a7 :: a8 :: a9 :: a10 :: a11 :: a12 :: a13 :: a14 :: a15 :: a16 :: a17 :: a18 :: some v :: r) H) : gName 19 v (a0 :: a1 :: a2 :: a3 :: a4 :: a5 :: a6 :: a7 :: a8 :: a9 :: a10 :: a11 :: a12 :: a13 :: a14 :: a15 :: a16 :: a17 :: a18 :: a19 :: r) H N := h
theorem g20 {a0 a1 a2 a3 a4 a5 a6 a7 a8 a9 a10 a11 a12 a13 a14 a15 a16 a17 a18 a19 a20 : Option V} {r : St} {N : St → Hp → Prop} (h : N (a0 :: a1 :: a2 :: a3 :: a4 :: a5 :: a6 :: a7 :: a8 :: a9 :: a10 :: a11 :: a12 :: a13 :: a14 :: a15 :: a16 :: a17 :: a18 :: a19 :: some v :: r) H) : gName 20 v (a0 :: a1 :: a2 :: a3 :: a4 :: a5 :: a6 :: a7 :: a8 :: a9 :: a10 :: a11 :: a12 :: a13 :: a14 :: a15 :: a16 :: a17 :: a18 :: a19 :: a20 :: r) H N := h
theorem g21 {a0 a1 a2 a3 a4 a5 a6 a7 a8 a9 a10 a11 a12 a13 a14 a15 a16 a17 a18 a19 a20 a21 : Option V} {r : St} {N : St → Hp → Prop} (h : N (a0 :: a1 :: a2 :: a3 :: a4 :: a5 :: a6 :: a7 :: a8 :: a9 :: a10 :: a11 :: a12 :: a13 :: a14 :: a15 :: a16 :: a17 :: a18 :: a19 :: a20 :: some v :: r) H) : gName 21 v (a0 :: a1 :: a2 :: a3 :: a4 :: a5 :: a6 :: a7 :: a8 :: a9 :: a10 :: a11 :: a12 :: a13 :: a14 :: a15 :: a16 :: a17 :: a18 :: a19 :: a20 :: a21 :: r) H N := h
theorem g22 {a0 a1 a2 a3 a4 a5 a6 a7 a8 a9 a10 a11 a12 a13 a14 a15 a16 a17 a18 a19 a20 a21 a22 : Option V} {r : St} {N : St → Hp → Prop} (h : N (a0 :: a1 :: a2 :: a3 :: a4 :: a5 :: a6 :: a7 :: a8 :: a9 :: a10 :: a11 :: a12 :: a13 :: a14 :: a15 :: a16 :: a17 :: a18 :: a19 :: a20 :: a21 :: some v :: r) H) : gName 22 v (a0 :: a1 :: a2 :: a3 :: a4 :: a5 :: a6 :: a7 :: a8 :: a9 :: a10 :: a11 :: a12 :: a13 :: a14 :: a15 :: a16 :: a17 :: a18 :: a19 :: a20 :: a21 :: a22 :: r) H N := h
theorem g23 {a0 a1 a2 a3 a4 a5 a6 a7 a8 a9 a10 a11 a12 a13 a14 a15 a16 a17 a18 a19 a20 a21 a22 a23 : Option V} {r : St} {N : St → Hp → Prop} (h : N (a0 :: a1 :: a2 :: a3 :: a4 :: a5 :: a6 :: a7 :: a8 :: a9 :: a10 :: a11 :: a12 :: a13 :: a14 :: a15 :: a16 :: a17 :: a18 :: a19 :: a20 :: a21 :: a22 :: some v :: r) H) : gName 23 v (a0 :: a1 :: a2 :: a3 :: a4 :: a5 :: a6 :: a7 :: a8 :: a9 :: a10 :: a11 :: a12 :: a13 :: a14 :: a15 :: a16 :: a17 :: a18 :: a19 :: a20 :: a21 :: a22 :: a23 :: r) H N := h
theorem i_gTup {n : Nat} {tg : TGs} {a : Addr} {xs : List V} {N : St → Hp → Prop} (hq : SqT K H a xs) (hl : xs.length = n) (h : tg xs σ H N) : gTup K n tg (.ref a) σ H N := ⟨a, xs, rfl, hq, hl, h⟩
theorem i_gCons {tg : TG} {us : TGs} {r : List V} {N : St → Hp → Prop} (h : tg v σ H fun σ' H' => us r σ' H' N) : gCons tg us (v :: r) σ H N := ⟨v, r, rfl, h⟩
theorem i_gNil {N : St → Hp → Prop} (h : N σ H) : gNil [] σ H N := ⟨rfl, h⟩
/-- tests -/
theorem iteD {p : Prop} [Decidable p] (h1 : p → A) (h2 : ¬ p → B) : if decide p = true then A else B := by
  by_cases h : p
  · rw [if_pos (decide_eq_true h)]; exact h1 h
  · rw [if_neg (by simp [h])]; exact h2 h
theorem iteDp {p : Prop} [Decidable p] (hp : p) (h : A) : if decide p = true then A else B := by rw [if_pos (decide_eq_true hp)]; exact h
theorem iteDn {p : Prop} [Decidable p] (hp : ¬ p) (h : B) : if decide p = true then A else B := by rw [if_neg (by simp [hp])]; exact h
theorem iteNp {p : Prop} [Decidable p] (hp : p) (h : B) : if (!decide p) = true then A else B := by rw [if_neg (by simp [hp])]; exact h
theorem iteNn {p : Prop} [Decidable p] (hp : ¬ p) (h : A) : if (!decide p) = true then A else B := by rw [if_pos (by simp [hp])]; exact h
theorem iteN {p : Prop} [Decidable p] (h1 : p → B) (h2 : ¬ p → A) : if (!decide p) = true then A else B := by
  by_cases h : p
  · exact iteNp h (h1 h)
  · exact iteNn h (h2 h)
theorem iteNT (h : B) : if (!true) = true then A else B := iteF h
theorem iteNF (h : A) : if (!false) = true then A else B := iteT h
/-- attributes -/
theorem lk_hd {f : Str} {r : List (Str × V)} : List.lookup f ((f, v) :: r) = some v := by simp [List.lookup]
theorem lk_tl {f g : Str} {r : List (Str × V)} {o : Option V} (h : ¬ f = g) (e : List.lookup f r = o) : List.lookup f ((g, v) :: r) = o := by
  have h' : (f == g) = false := by simp [h]
  simp [List.lookup, h', e]
theorem lk_nil {f : Str} : List.lookup f ([] : List (Str × V)) = none := rfl
theorem pf_hd {f : Str} {r : List (Str × V)} : putF f v ((f, x) :: r) = (f, v) :: r := by simp [putF]
theorem pf_tl {f g : Str} {r r' : List (Str × V)} (h : ¬ g = f) (e : putF f v r = r') : putF f v ((g, x) :: r) = (g, x) :: r' := by simp [putF, h, e]
theorem pf_nil {f : Str} : putF f v [] = [(f, v)] := rfl
/-- the heap -/
theorem upd_new {a c : Addr} {o o' : HO} (hn : H a = none) (h : H c = some o) : upd H a o' c = some o := by rw [upd_ne (ne_of_none h hn)]; exact h
theorem upd_oth {a c : Addr} {o o' : HO} (hn : c ≠ a) (h : H c = some o) : upd H a o' c = some o := by rw [upd_ne hn]; exact h
theorem same_upd {a : Addr} {o : HO} (hn : H a = none) : Same H (upd H a o) := fun _ _ h => upd_new hn h
theorem Same.tup {H H' : Hp} {a : Addr} {xs : List V} (e : Same H H') (h : SqT K H a xs) : SqT K H' a xs := by
  rcases h with (h | ⟨o, h⟩) | h
  · exact .inl (.inl (e _ _ h))
  · exact .inl (.inr ⟨o, e _ _ h⟩)
  · exact .inr h
theorem i_make {C : Addr} {sp : Sp} {dvs : List V} {E : XK} (h : tr σ H fun vs H1 => ∀ x dx, H1 x = none → H1 dx = none → dx ≠ x → sp (.ref x :: (vs ++ dvs)) (upd (upd H1 dx (.own x)) x (.ins C dx [])) (fun v H2 => v = .non ∧ Q (.ref x) H2) E) : tMake C sp dvs E tr σ H Q := h
theorem i_bm {T : String} {r : V → List V → Hp → VK → Prop} (h : ta σ H fun x H1 => tyV K T x H1 ∧ tr σ H1 fun xs H2 => r x xs H2 Q) : tBM K T r ta tr σ H Q := h
theorem i_bm0 {T : String} {r : V → List V → Hp → VK → Prop} (h : ta σ H fun x H1 => tyV K T x H1 ∧ r x [] H1 Q) : tBM0 K T r ta σ H Q := h
theorem i_tyL {p : Addr} {xs : List V} (h : H p = some (.lst xs)) (k : A) : tyV K "list" (.ref p) H ∧ A := ⟨.inl ⟨rfl, _, SqL.of h⟩, k⟩
theorem i_append {l : Addr} {xs : List V} (h : H l = some (.lst xs)) (hz : xs.length < sizeLine) (k : Q .non (upd H l (.lst (xs ++ [y])))) : rAppend (.ref l) [y] H Q := ⟨l, xs, y, rfl, rfl, h, hz, k⟩
theorem i_len {p : Addr} {ys : List V} {P : List V → Prop} (h : SqL K H p ys) (k : P ys) : ∃ p' ys', [V.ref p] = [V.ref p'] ∧ (SqL K H p' ys' ∨ SqT K H p' ys') ∧ P ys' := ⟨p, ys, rfl, .inl h, k⟩
theorem i_lenT {p : Addr} {ys : List V} {P : List V → Prop} (h : SqT K H p ys) (k : P ys) : ∃ p' ys', [V.ref p] = [V.ref p'] ∧ (SqL K H p' ys' ∨ SqT K H p' ys') ∧ P ys' := ⟨p, ys, rfl, .inr h, k⟩
theorem i_listof {p : Addr} {ys : List V} {P : List V → Prop} (h : SqL K H p ys) (k : P ys) : ∃ p' ys', [V.ref p] = [V.ref p'] ∧ (SqL K H p' ys' ∨ SqT K H p' ys') ∧ P ys' := ⟨p, ys, rfl, .inl h, k⟩
theorem i_ixL {p : Addr} {xs : List V} (h : SqL K H p xs) (e : atI xs i = some v) (k : Q v H) : rIxL K (.ref p) (.int i) H Q := ⟨p, xs, i, v, rfl, rfl, h, e, k⟩
theorem i_ixT {p : Addr} {xs : List V} (h : SqT K H p xs) (e : atI xs i = some v) (k : Q v H) : rIxT K (.ref p) (.int i) H Q := ⟨p, xs, i, v, rfl, rfl, h, e, k⟩
theorem i_slL {p : Addr} {xs : List V} {lo hi : Option Int} (h : SqL K H p xs) (k : ∀ q, H q = none → Q (.ref q) (upd H q (.lst (cutV xs lo hi)))) : rSlL K (.ref p) lo hi H Q := ⟨p, xs, rfl, h, k⟩
theorem cut_take {xs : List V} (n : Nat) : cutV xs none (some (n : Int)) = xs.take n := by
  unfold cutV
  rw [HT.sIx_none, HT.sIx_nat, List.drop_zero, Nat.sub_zero]
  rcases Nat.le_total n xs.length with h | h
  · rw [Nat.min_eq_left h]
  · rw [Nat.min_eq_right h, List.take_of_length_le (Nat.le_refl _), List.take_of_length_le h]
theorem i_for {wi : TI} {g : TG} {tb : TS} (h : wi σ H fun J H1 => ∃ W : Nat → Nat → St → Hp → Prop, (∃ m, W 0 m σ H1) ∧ ∀ i m σ H, W i m σ H →
    (J.stop i H ∧ D.nx σ H) ∨ (J.go i H ∧ ∃ N : St → Hp → Prop, (∀ σ' H', N σ' H' → ∃ m', m' < m ∧ W (i + 1) m' σ' H') ∧ ∀ x H', J.yld i H x H' → g x σ H' fun σ2 H2 => tb { D with nx := N, ct := N, bk := D.nx } σ2 H2)) : tFor wi g tb D σ H := h
theorem i_iList {R : It → Hp → Prop} (h : ta σ H fun x H1 => ∃ a, x = .ref a ∧ (∃ xs, SqL K H1 a xs) ∧ R (Itl K a) H1) : iList K ta σ H R := h
theorem i_iTup {R : It → Hp → Prop} (h : ta σ H fun x H1 => ∃ a, x = .ref a ∧ (∃ xs, SqT K H1 a xs) ∧ R (Itt K a) H1) : iTup K ta σ H R := h
theorem i_iRng1 {R : It → Hp → Prop} (h : tr σ H fun vs H1 => ∃ j : Int, vs = [.int j] ∧ -(2 ^ 62) ≤ j ∧ j < 2 ^ 62 ∧ R (Itr 0 j.toNat) H1) : iRng1 tr σ H R := h
theorem i_isi {n m : String} {k : Bool} {P : Bool → Prop} (ty : TyOf K H x (.type n)) (e : PySem.W.kitOne K (.type n) (.type m) = some k) (h : P k) :
    ∃ x' cv t c k', [x, V.ty m] = [x', cv] ∧ RelV cv c ∧ (∀ u, RelV cv u → u = c) ∧ TyOf K H x' t ∧ PySem.W.kitOne K t c = some k' ∧ P k' := ⟨x, .ty m, .type n, .type m, k, rfl, rfl, fun _ r => r, ty, e, h⟩
theorem i_powC {k : Int} (hc : CPow i j) (e : i ^ j.toNat = k) (h : Q (.int k) H) : rPowC k (.int i) (.int j) H Q := ⟨i, j, rfl, rfl, hc, e, h⟩
theorem i_after (h : nx σ H) : After nx σ H := h
end
/-- what isinstance(x, int), isinstance(x, bool) say of a plain thing -/
def isIntV : V → Bool
  | .int _ => true
  | .bl _ => true
  | _ => false
def isBoolV : V → Bool
  | .bl _ => true
  | _ => false
def wholeV : V → Bool
  | .int _ => true
  | _ => false
theorem kit_int {K : PySem.W.Frag} {H : Hp} {x : V} {n : String} (ty : TyOf K H x (.type n)) : PySem.W.kitOne K (.type n) (.type "int") = some (isIntV x) := by
  cases ty <;> rfl
theorem kit_bool {K : PySem.W.Frag} {H : Hp} {x : V} {n : String} (ty : TyOf K H x (.type n)) : PySem.W.kitOne K (.type n) (.type "bool") = some (isBoolV x) := by
  cases ty <;> rfl
end L2
namespace SpanMath
/-- a chance -/
def Ch (c : Int) : Prop := 32768 ≤ c ∧ c ≤ 16744448
def s0 : Int × Int × Int := (0, 1099511627776, 5)

/-- a span as it can come -/
structure Ok (x : Int × Int × Int) : Prop where
  l0 : 0 ≤ x.1
  w0 : 4294967296 ≤ x.2.1
  w1 : x.2.1 ≤ 1099511627776
  z : 5 ≤ x.2.2
theorem ok0 : Ok s0 := ⟨by decide, by decide, by decide, by decide⟩
end SpanMath
namespace SpanMath
/-- 256 ** k -/
def pw : Nat → Int
  | 0 => 1
  | k + 1 => pw k * 256
/-! ### numbers written by bytes -/
def lo : Nat → Int → List Int
  | 0, _ => []
  | k + 1, n => n % 256 :: lo k (n / 256)
def val (xs : List Int) : Int := xs.foldl (fun a b => a * 256 + b) 0
/-! ### the settled bytes -/
/-- how many bytes from the end a and b part in: the while of settled, n turns at most -/
def part : Nat → Int → Int → Nat
  | 0, _, _ => 0
  | n + 1, a, b => if a = b then 0 else part n (a / 256) (b / 256) + 1
end SpanMath
namespace SpanMath
abbrev Sn := Int × Int × Int
def sz (x : Sn) : Nat := x.2.2.toNat
/-- a span as it can come, within its bytes -/
structure OkS (x : Sn) : Prop where
  ok : Ok x
  top : x.1 + x.2.1 ≤ pw (sz x)
theorem OkS.sz {x : Sn} (h : OkS x) : ((sz x : Nat) : Int) = x.2.2 := by
  have := h.ok.z
  unfold SpanMath.sz
  omega
/-- y lies in x: r bytes more -/
structure Sub (x y : Sn) (r : Nat) : Prop where
  z : sz y = sz x + r
  l : x.1 * pw r ≤ y.1
  h : y.1 + y.2.1 ≤ (x.1 + x.2.1) * pw r
/-! ### settled -/
/-! ### told -/
/-- the first block of e numbers behind l -/
def blk (l e : Int) : Int := (l + e - 1) / e
def hold (l w : Int) (k : Nat) : Prop := (blk l (pw k) + 1) * pw k ≤ l + w
instance (l w : Int) (k : Nat) : Decidable (hold l w k) := inferInstanceAs (Decidable ((blk l (pw k) + 1) * pw k ≤ l + w))
/-! ### the cost -/
end SpanMath
/-! A COMPREHENSION of lists: one clause, a plain name, no test, no name of the def around -/
namespace L2
open PySem PySem.Spec PyProof.Rows
def tCompB (J : It) (te : TE) (D : Addr) (R : Hp → Prop) (H1 : Hp) : Prop := ∃ W : Nat → Nat → Hp → Prop, (∃ m, W 0 m (upd H1 D (.lst []))) ∧
  ∀ i m H2, W i m H2 → (J.stop i H2 ∧ R H2) ∨ (J.go i H2 ∧ ∀ x H3, J.yld i H2 x H3 → te [some x] H3 fun y H4 => ∃ ys, H4 D = some (.lst ys) ∧ ys.length < sizeLine ∧ ∃ m', m' < m ∧ W (i + 1) m' (upd H4 D (.lst (ys ++ [y]))))
def tComp (wi : TI) (te : TE) : TE := fun σ H Q => wi σ H fun J H1 => ∀ D, H1 D = none → tCompB J te D (fun H2 => Q (.ref D) H2) H1
section
variable {X : Cx} {iter elt : Expr} {x : Str} {px pos : Pos} {scope : Scope} {te : TE} {wi : TI} {pins : List (Addr × Obj)} {σ : St}
theorem thnF {α : Type} {t : Sem α} {Q Q' : α → Shared → Prop} {M : Model} {A : Around} {E : Value → Shared → Prop} {s : Shared} (h : wpAny M A t Q (fun _ _ => False) s) (hQ : ∀ a s, Q a s → Q' a s) : wpAny M A t Q' E s := wpAny_mono h hQ fun _ _ z => z.elim
theorem i_comp {wi : TI} {te : TE} {H : Hp} {Q : VK} (h : wi σ H fun J H1 => ∀ D, H1 D = none → tCompB J te D (fun H2 => Q (.ref D) H2) H1) : tComp wi te σ H Q := h
/-- over a list that the block leaves as it is -/
def cW (n : Nat) (Pv : Nat → Hp → Prop) (i m : Nat) (H : Hp) : Prop := m = n - i ∧ i ≤ n ∧ Pv i H
theorem comp_list {K : PySem.W.Frag} {a D : Addr} {xs : List V} {te : TE} {R : Hp → Prop} {H1 : Hp} (Pv : Nat → Hp → Prop) (h0 : Pv 0 (upd H1 D (.lst []))) (hl : ∀ i H, i ≤ xs.length → Pv i H → SqL K H a xs)
    (hs : ∀ i x H, xs[i]? = some x → i < xs.length → Pv i H → te [some x] H fun y H4 => ∃ ys, H4 D = some (.lst ys) ∧ ys.length < sizeLine ∧ ∃ m', m' < xs.length - i ∧ cW xs.length Pv (i + 1) m' (upd H4 D (.lst (ys ++ [y]))))
    (hd : ∀ H, Pv xs.length H → R H) : tCompB (Itl K a) te D R H1 := by
  refine ⟨cW xs.length Pv, ⟨xs.length, by simp, Nat.zero_le _, h0⟩, ?_⟩
  rintro i m H ⟨rfl, hi, p⟩
  have q := hl i H hi p
  by_cases hlt : i < xs.length
  · refine .inr ⟨⟨xs, xs[i], q, by simp [hlt]⟩, fun x H' y => ?_⟩
    obtain ⟨e, y⟩ := y
    subst e
    exact hs i x _ (y xs q) hlt p
  · have e : i = xs.length := by omega
    subst e
    exact .inl ⟨⟨xs, q, Nat.le_refl _⟩, hd H p⟩
theorem comp_next {n i : Nat} {Pv : Nat → Hp → Prop} {D : Addr} {ys : List V} {y : V} {H4 : Hp} (hD : H4 D = some (.lst ys)) (hl : ys.length < sizeLine) (hi : i < n) (p : Pv (i + 1) (upd H4 D (.lst (ys ++ [y])))) :
    ∃ ys, H4 D = some (.lst ys) ∧ ys.length < sizeLine ∧ ∃ m', m' < n - i ∧ cW n Pv (i + 1) m' (upd H4 D (.lst (ys ++ [y]))) := ⟨ys, hD, hl, n - (i + 1), by omega, rfl, hi, p⟩
end
end L2
namespace L2
open PySem
def notStar : Expr → Bool
  | .Starred _ _ => false
  | _ => true
theorem star_ok {e : Expr} {es : List Expr} {env : Env} (h : notStar e = true) : starEach (e :: es) env = (false, eval e env) :: starEach es env := by
  cases e <;> first | rfl | cases h
end L2
/-! ERRORS of one's own over the layer: raised in a def, passed on by defs, taken by a try with one clause -/
namespace L2
open PySem PySem.Spec PyProof.Rows
/-- what the fragment tells of an own error class without methods -/
structure XCls (K : PySem.W.Frag) (C : Addr) : Prop where
  hd : PySem.W.hasDictIn K C = true
  ga : PySem.W.findIn K (.ref C) "__getattribute__" = some (some (.builtin "BaseException.__getattribute__"))
  gt : PySem.W.findIn K (.ref C) "__getattr__" = some none
  ca : PySem.W.findIn K (.ref C) "__class__" = some (some (.builtin "object.__class__"))
  gg : PySem.W.specialIn K (.builtin "object.__class__") "__get__" = some (some (.builtin "getset_descriptor.__get__"))
  tk : PySem.W.takesIn K (.builtin "object.__class__") = some true
  mo : PySem.W.mroIn K C (.type "object") = some true
  mb : PySem.W.mroIn K C (.type "BaseException") = some true
theorem XCls.cl {K : PySem.W.Frag} {C : Addr} (c : XCls K C) : (PySem.W.clsIn K C).isSome = true := by
  obtain ⟨cd, h, _⟩ := PySem.W.any_some c.hd
  rw [h]; rfl
/-- an error of the class at C stands at x -/
def ExAt (x C : Addr) (h : Heap) : Prop := ∃ ox, h.get? x = some ox ∧ ox.cls = .ref C
section
variable {prog : Program} {w : World} {A : Around} {E : Value → Shared → Prop} {s : Shared} {K : PySem.W.Frag} {x C : Addr}
theorem ExAt.type {M : Model} {h : Heap} (I : ExAt x C h) : PySem.W.Looks M h (typeOf (.ref x)) (.ref C) := by
  obtain ⟨ox, h1, h2⟩ := I
  exact h2 ▸ (PySem.W.Looks.ld h1).andThen .now
end

/-! ### isinstance of an error -/
section
variable {X : Cx}
end
end L2
namespace L2
open PySem PySem.Spec PyProof.Rows
/-! ### a record of ours that nobody else knows -/
theorem ObjOk.there {P : Program} {w : World} {H : Hp} {h : Heap} {a : Addr} {o : HO} (x : ObjOk P w H h a o) : ∃ ob, h.get? a = some ob := by
  cases o with
  | lst xs => obtain ⟨_, _, _, _, e⟩ := x; exact ⟨_, e⟩
  | tup xs => obtain ⟨_, _, _, ob, e, _⟩ := x; exact ⟨_, e⟩
  | dK kvs => obtain ⟨_, _, _, _, ob, _, _, e, _⟩ := x; exact ⟨_, e⟩
  | dT kvs => obtain ⟨_, _, _, _, ob, _, _, e, _⟩ := x; exact ⟨_, e⟩
  | set S n => obtain ⟨ob, _, _, _, e, _⟩ := x; exact ⟨_, e⟩
  | ins C dx fs => obtain ⟨_, _, _, e, _⟩ := x; exact ⟨_, e⟩
  | own y => exact x
  | xd fs => obtain ⟨_, ⟨_, _, _, e, _⟩, _⟩ := x; exact ⟨_, e⟩
  | rng lo hi => obtain ⟨_, _, _, e⟩ := x; exact ⟨_, e⟩
  | frz ob u => obtain ⟨e, _⟩ := x; exact ⟨_, e⟩
  | tbl ps => exact ⟨_, (show h.get? a = some _ from x)⟩
  | met f y => exact ⟨_, (show h.get? a = some _ from x)⟩
  | ext φ => obtain ⟨_, e, _⟩ := x; exact e
theorem HOk.none_of {P : Program} {w : World} {H : Hp} {h : Heap} {a : Addr} (x : HOk P w H h) (e : h.get? a = none) : H a = none := by
  cases q : H a with
  | none => rfl
  | some u =>
    obtain ⟨ob, z⟩ := (x a u q).there
    rw [e] at z
    cases z
def Fy (X : Cx) (pins : List (Addr × Obj)) (H : Hp) (b : Addr) : Prop :=
  H b = none ∧ b ≠ X.env.locals ∧ b ∉ X.fs ∧ (b ∈ X.ex ∨ X.s₀.heap.get? b = none) ∧ (∀ y c, X.env.cells.lookup y = some c → c ≠ b) ∧ ∀ p ∈ X.pn ++ pins, p.1 ≠ b
section
variable {X : Cx} {pins : List (Addr × Obj)} {σ : St} {H H' : Hp} {s : Shared} {b x T : Addr} {h' : Heap}
theorem fy_new (I : Inv X pins σ H s) (hb : s.heap.get? b = none) (hn : H' b = none) : Fy X pins H' b := by
  refine ⟨hn, ?_, ?_, ?_, ?_, ?_⟩
  · rintro rfl
    obtain ⟨_, ⟨_, _, _, e, _⟩, _⟩ := I.loc
    rw [hb] at e; cases e
  · intro z
    obtain ⟨_, o, e, _⟩ := I.funs.mem z
    rw [hb] at e; cases e
  · by_cases hx : b ∈ X.ex
    · exact .inl hx
    · refine .inr ?_
      cases q : X.s₀.heap.get? b with
      | none => rfl
      | some o =>
        obtain ⟨_, e⟩ := I.base.there b o q hx
        rw [hb] at e; cases e
  · rintro y c e rfl
    obtain ⟨_, _, q, _⟩ := I.cell y c e
    rw [hb] at q; cases q
  · intro p hp z
    have q := (I.pin p hp).1
    rw [z, hb] at q; cases q
/-- nothing but the records at x and T, and slots of the frames that run, has changed -/
theorem Inv.fly (I : Inv X pins σ H s) (hx : Fy X pins H x) (hT : Fy X pins H T)
    (keep : ∀ b o, b ≠ x → b ≠ T → b ∉ frs X.stack → s.heap.get? b = some o → h'.get? b = some o)
    (slot : ∀ b o, b ∈ frs X.stack → s.heap.get? b = some o → ∃ sl, h'.get? b = some { o with slots := sl }) : Inv X pins σ H { s with heap := h' } := by
  have ent : ∀ {y b o}, Fy X pins H y → X.s₀.heap.get? b = some o → b ∉ X.ex → b ≠ y := fun {y b o} hy e he z => by
    subst z
    rcases hy.2.2.2.1 with q | q
    · exact he q
    · rw [e] at q; cases q
  have any : ∀ b o, b ≠ x → b ≠ T → s.heap.get? b = some o → ∃ sl, h'.get? b = some { o with slots := sl } := fun b o h1 h2 e => by
    by_cases z : b ∈ frs X.stack
    · exact slot b o z e
    · exact ⟨o.slots, keep b o h1 h2 z e⟩
  have cellK : ∀ y c, X.env.cells.lookup y = some c → ∀ v, s.heap.IsCell c v → h'.IsCell c v := fun y c e v ⟨o, ho, hd⟩ => by
    obtain ⟨sl, q⟩ := any c o (hx.2.2.2.2.1 y c e) (hT.2.2.2.2.1 y c e) ho
    exact ⟨_, q, hd⟩
  refine ⟨I.ok, I.os, I.bare, ⟨fun b o e n hb he => ?_, fun b o e n hb he => ?_, I.base.free, fun b o e he => ?_, I.base.tups, I.base.frzs, I.base.tbls⟩, ?_, fun y c e => ?_, I.free, I.freeC, fun p hp => ?_, fun b u e => ?_, I.len⟩
  · refine keep b o (ent hx e he) (ent hT e he) (fun z => ?_) (I.base.keep b o e n hb he)
    rcases List.mem_cons.mp (I.stkSub b z) with q | q
    · exact absurd q (Nat.ne_of_lt (Nat.lt_of_lt_of_le (Heap.lt_size e) I.ok.above))
    · exact hb q
  · obtain ⟨sl, e1⟩ := I.base.slot b o e n hb he
    obtain ⟨sl', e2⟩ := any b _ (ent hx e he) (ent hT e he) e1
    exact ⟨sl', e2⟩
  · obtain ⟨o', e1⟩ := I.base.there b o e he
    obtain ⟨sl', e2⟩ := any b _ (ent hx e he) (ent hT e he) e1
    exact ⟨_, e2⟩
  · obtain ⟨m, hn, hl⟩ := I.loc
    refine ⟨m, ?_, fun i y v e1 e2 e3 => ?_⟩
    · obtain ⟨o, es, ep, ho, r⟩ := hn
      obtain ⟨sl, q⟩ := any _ o (Ne.symm hx.2.1) (Ne.symm hT.2.1) ho
      exact ⟨_, es, ep, q, r⟩
    · obtain ⟨u, r, l⟩ := hl i y v e1 e2 e3
      refine ⟨u, r, ?_⟩
      rcases l with l | ⟨k, c, e, z⟩
      · exact .inl l
      · exact .inr ⟨k, c, e, cellK y c e _ z⟩
  · obtain ⟨v, z⟩ := I.cell y c e
    exact ⟨v, cellK y c e v z⟩
  · obtain ⟨e, n, ne, nf, d⟩ := I.pin p hp
    refine ⟨keep p.1 p.2 (hx.2.2.2.2.2 p hp) (hT.2.2.2.2.2 p hp) (fun z => ?_) e, n, ne, nf, d⟩
    rcases List.mem_cons.mp (I.stkSub _ z) with q | q
    · exact ne q
    · exact nf q
  · have tr : ∀ c v, H c = some v → c ≠ x ∧ c ≠ T ∧ c ∉ frs X.stack := fun c v q =>
      ⟨fun z => (by rw [z, hx.1] at q; cases q), fun z => (by rw [z, hT.1] at q; cases q), fun z => (by rw [I.stkFree c z] at q; cases q)⟩
    refine (I.hok b u e).stay (fun c v hc q => ?_) (fun _ q => q) fun _ _ q => q
    obtain ⟨z1, z2, z3⟩ : c ≠ x ∧ c ≠ T ∧ c ∉ frs X.stack := by
      rcases hc with rfl | hc
      · exact tr _ _ e
      · exact tr _ _ hc
    exact keep c v z1 z2 z3 q
/-- the error at x of the class C, with the record of its way at T -/
def Trd (h : Heap) (x T : Addr) (C fl : Value) : Prop :=
  ∃ oe vs oT ts a0, h.get? x = some oe ∧ (oe.cls = C ∧ vs[0]? = some a0) ∧ oe.data = .fields vs ∧ vs[1]? = some (.ref T) ∧ T ≠ x ∧ h.get? T = some oT ∧ oT.data = .fields ts ∧ ts[3]? = some fl
/-- all but the error, the record of its way, the frames -/
def hid (s : Shared) (X : Cx) (x T : Addr) : Heap := PySem.W.hideAll s.heap (x :: T :: frs X.stack)
theorem hid_in : (hid s X x T).StaysIn s.heap := fun _ _ e => PySem.W.of_hideAll _ e
theorem hid_x : (hid s X x T).get? x = none := PySem.W.hideAll_none _ (.head _)
theorem hid_T : (hid s X x T).get? T = none := PySem.W.hideAll_none _ (.tail _ (.head _))
theorem hid_fr (I : Inv X pins σ H s) : s.heap.FunFrames (hid s X x T) X.stack :=
  PySem.W.funFrames_hide I.stack fun env he a ha => .tail _ (.tail _ (List.mem_filterMap.mpr ⟨env, he, ha⟩))
theorem trd_at {C fl : Value} (t : Trd s.heap x T C fl) : ∃ a0, s.heap.TracedAtW (hid s X x T) x C a0 fl := by
  obtain ⟨oe, vs, oT, ts, a0, h1, h2, h3, h4, h5, h6, h7, h8⟩ := t
  exact ⟨a0, oe, vs, T, oT, ts, h1, h2, h3, h4, hid_T, h5, h6, h7, h8⟩
theorem fly_after {C a0 fl : Value} (I : Inv X pins σ H s) (hx : Fy X pins H x) (hT : Fy X pins H T) (k1 : (hid s X x T).StaysIn h') (k2 : h'.FunFrames (hid s X x T) X.stack) (k3 : h'.TracedAtW (hid s X x T) x C a0 fl)
    (k4 : ∀ b o, s.heap.get? b = some o → (∀ vs, o.data ≠ .fields vs) → ∃ sl, h'.get? b = some { o with slots := sl }) :
    Inv X pins σ H { s with heap := h' } ∧ ∃ T', Fy X pins H T' ∧ Trd h' x T' C fl := by
  refine ⟨I.fly hx hT (fun b o n1 n2 n3 e => k1 b o (PySem.W.hideAll_get _ e fun z => ?_)) fun b o hb e => ?_, ?_⟩
  · rcases List.mem_cons.mp z with z | z
    · exact n1 z
    · rcases List.mem_cons.mp z with z | z
      · exact n2 z
      · exact n3 z
  · obtain ⟨_, o', e', nf⟩ := I.stack.mem hb
    rw [e] at e'; cases e'
    exact k4 b o e nf
  · obtain ⟨oe, vs, T', oT, ts, h1, h2, h3, h4, h5, h6, h7, h8, h9⟩ := k3
    refine ⟨T', ?_, oe, vs, oT, ts, a0, h1, h2, h3, h4, h6, h7, h8, h9⟩
    by_cases q : T' = T
    · rw [q]; exact hT
    · cases e : s.heap.get? T' with
      | none => exact fy_new I e (I.hok.none_of e)
      | some o =>
        have z : T' ∈ frs X.stack := Classical.byContradiction fun z => by
          have := PySem.W.hideAll_get (x :: T :: frs X.stack) e (fun m => by
            rcases List.mem_cons.mp m with m | m
            · exact h6 m
            · rcases List.mem_cons.mp m with m | m
              · exact q m
              · exact z m)
          rw [show (PySem.W.hideAll s.heap (x :: T :: frs X.stack)).get? T' = none from h5] at this
          cases this
        obtain ⟨_, o', e', nf⟩ := k2.mem z
        rw [h7] at e'; cases e'
        exact absurd h8 (nf _)
end

/-! ### how an error leaves a call -/
def CXe (P : Program) (w : World) : CXT := fun outer H s E e s' => ∃ x T C H', e = .ref x ∧ s'.os = s.os ∧ AllBare s'.gens ∧ Un (frs outer) [] H H' s.heap s'.heap ∧ HOk P w H' s'.heap ∧
  (H' x = none ∧ s.heap.get? x = none) ∧ (H' T = none ∧ s.heap.get? T = none) ∧ Trd s'.heap x T C .none ∧ E C none H'
/-- an error that comes to this body reaches what it wants -/
def Catch (X : Cx) (Ex : St → XK) : Prop := ∀ (pins : List (Addr × Obj)) (σ : St) (H : Hp) (s' : Shared) (x T : Addr) (C : Value), Inv X pins σ H s' → Fy X pins H x → Fy X pins H T → Trd s'.heap x T C .none → Ex σ C none H → X.xe (.ref x) s'
theorem FnOk.up {P : Program} {w : World} {K : PySem.W.Frag} {mg : Str → Option Value} {base : Heap} {CX : CXT} {k : Nat} {f : Addr} {fd : FuncData} {ps : List Str} {sp : Sp} (F : FnOk P w K mg base CX0 k f fd ps sp) : FnOk P w K mg base CX k f fd ps sp :=
  ⟨F.len, fun A outer s H args us vs Q E hr e0 hb hv hs => codeAny_mono (F.run A outer s H args us vs Q E hr e0 hb hv hs) fun r s' hq => by
    cases r with
    | error e => exact False.elim hq
    | ok fl => cases fl <;> exact hq⟩
theorem catch_fn {P : Program} {w : World} {K : PySem.W.Frag} {mg : Str → Option Value} {base : Heap} {N : List Str} {qual : Str} {scope : Scope} {f : Addr} {cd : Value} {A : Around} {outer : List Env} {s : Shared} {H : Hp} {E : XK} :
    Catch (cxOf (CXe P w) P w K mg base N qual scope f cd A outer s H E) (fun _ => E) := by
  intro pins σ H1 s' x T C I hx hT tr q
  show wpAny _ _ (leaving _ _) _ _ _
  obtain ⟨a0, ta⟩ := trd_at (X := cxOf (CXe P w) P w K mg base N qual scope f cd A outer s H E) tr
  refine wpAny_leaving_nextW (base := hid s' (cxOf (CXe P w) P w K mg base N qual scope f cd A outer s H E) x T) (L := s.heap.objs.size) I.ok.frames (hid_fr I) rfl ta hid_in hid_x fun h' ⟨k1, k2, k3, k4⟩ => ?_
  obtain ⟨I', T', hT', t'⟩ := fly_after I hx hT k1 k2 k3 k4
  have new : ∀ {b}, Fy (cxOf (CXe P w) P w K mg base N qual scope f cd A outer s H E) pins H1 b → H1 b = none ∧ s.heap.get? b = none := fun hb => ⟨hb.1, hb.2.2.2.1.resolve_left (by intro z; cases z)⟩
  exact ⟨x, T', C, H1, rfl, I'.os, I'.bare, I'.base, I'.hok, new hx, new hT', t', q⟩
/-- a new error, made and raised here -/
theorem raise_fn {P : Program} {w : World} {K : PySem.W.Frag} {mg : Str → Option Value} {base : Heap} {N : List Str} {qual : Str} {scope : Scope} {f : Addr} {cd : Value} {A : Around} {outer : List Env} {s : Shared} {H : Hp} {E : XK}
    {pins : List (Addr × Obj)} {σ : St} {H1 : Hp} {s1 : Shared} {h' : Heap} {x : Addr} {C : Value} {vs : List Value} (I : Inv (cxOf (CXe P w) P w K mg base N qual scope f cd A outer s H E) pins σ H1 s1) (m : Heap.MadeExcOf s1.heap h' x C vs) (q : E C none H1) :
    (cxOf (CXe P w) P w K mg base N qual scope f cd A outer s H E).xe (.ref x) { s1 with heap := h' } := by
  obtain ⟨t, he, _, _⟩ := m.there
  have hx : Fy (cxOf (CXe P w) P w K mg base N qual scope f cd A outer s H E) pins H1 x := fy_new I m.new (I.hok.none_of m.new)
  have I1 : Inv (cxOf (CXe P w) P w K mg base N qual scope f cd A outer s H E) pins σ H1 { s1 with heap := h' } := I.kept (t' := s1.toks) m.keeps
  show wpAny _ _ (leaving _ _) _ _ _
  refine wpAny_leaving_firstW (base := hid { s1 with heap := h' } (cxOf (CXe P w) P w K mg base N qual scope f cd A outer s H E) x x) (L := s.heap.objs.size) (a0 := .ref t) I1.ok.frames (hid_fr I1) rfl he hid_in hid_x rfl rfl rfl fun h'' ⟨k1, k2, k3, k4⟩ => ?_
  obtain ⟨I', T', hT', t'⟩ := fly_after I1 hx hx k1 k2 k3 k4
  have new : ∀ {b}, Fy (cxOf (CXe P w) P w K mg base N qual scope f cd A outer s H E) pins H1 b → H1 b = none ∧ s.heap.get? b = none := fun hb => ⟨hb.1, hb.2.2.2.1.resolve_left (by intro z; cases z)⟩
  exact ⟨x, T', C, H1, rfl, I'.os, I'.bare, I'.base, I'.hok, new hx, new hT', t', q⟩
end L2
namespace L2
open PySem PySem.Spec PyProof.Rows
/-! ### calls whose errors are wanted -/
def tCallE (sp : Sp) (dvs : List V) (Ex : St → XK) (t : TA) : TE := fun σ H Q => t σ H fun vs H1 => sp (vs ++ dvs) H1 Q (Ex σ)
def tMethE (C : Addr) (m : Str) (sp : Sp) (dvs : List V) (Ex : St → XK) (ta : TE) (t : TA) : TE := fun σ H Q => ta σ H fun x H1 => ∃ a dx fs, x = .ref a ∧ H1 a = some (.ins C dx fs) ∧ fs.lookup m = none ∧
  t σ H1 fun vs H2 => sp (x :: (vs ++ dvs)) H2 Q (Ex σ)
def tMakeE (C : Addr) (sp : Sp) (dvs : List V) (Ex : St → XK) (t : TA) : TE := fun σ H Q => t σ H fun vs H1 => ∀ x dx, H1 x = none → H1 dx = none → dx ≠ x →
  sp (.ref x :: (vs ++ dvs)) (upd (upd H1 dx (.own x)) x (.ins C dx [])) (fun v H2 => v = .non ∧ Q (.ref x) H2) (Ex σ)
section
variable {X : Cx} {k : Nat} {f C : Addr} {fd : FuncData} {ps : List Str} {sp : Sp} {dvs : List V} {ds : List Value} {Ex : St → XK} {x m : Str} {p pos apos : Pos} {e o : Expr} {es : List Expr} {ta : TE} {t : TA}
/-- the error that left a callee has come to this body -/
theorem Inv.came {pins : List (Addr × Obj)} {σ : St} {H : Hp} {s s' : Shared} {v : Value} (I : Inv X pins σ H s) (hc : Catch X Ex) (h : CXe X.prog X.w X.stack H s (Ex σ) v s') : X.xe v s' := by
  obtain ⟨y, T, D, H', rfl, os, bare, un, hok, hy, hT, tr, q⟩ := h
  exact hc pins σ H' s' y T D (I.call' os un hok bare fun b z => absurd z (by simp)) (fy_new I hy.2 hy.1) (fy_new I hT.2 hT.1) tr q
theorem run_fnE {pins : List (Addr × Obj)} {σ : St} {H : Hp} {s : Shared} {Q : VK} {us : List Value} {vs : List V} (F : FnOk X.prog X.w X.K X.mg X.base (CXe X.prog X.w) k f fd ps sp) (hr : Room k X.A) (hb : Binds X.K fd ps ds) (hd : Vals dvs ds) (hc : Catch X Ex)
    (I : Inv X pins σ H s) (r : Vals vs us) (h : sp (vs ++ dvs) H Q (Ex σ)) : wpAny (model X.prog X.w) X.A (call (.ref f) us) (EP X pins σ Q) X.xe s := by
  have r2 : Vals (vs ++ dvs) (us ++ ds) := r.append hd
  have hl : (us ++ ds).length = ps.length := by rw [← r2.length]; exact F.len _ _ _ _ h
  refine wpAny_call (codeAny_mono (F.run X.A X.stack s H ⟨us, []⟩ (us ++ ds) (vs ++ dvs) Q (Ex σ) hr I.env0 (hb s us I.kIn hl) r2 h) fun r s' hq => ?_)
  cases r with
  | error e => exact I.came hc hq
  | ok fl =>
    cases fl with
    | ret u => exact I.after hq
    | next => exact False.elim hq
    | brk => exact False.elim hq
    | cont => exact False.elim hq
theorem pe_callE (F : FnOk X.prog X.w X.K X.mg X.base (CXe X.prog X.w) k f fd ps sp) (hr : Room k X.A) (hg : Gl X x) (hm : X.mg x = some (.ref f)) (hk : PySem.W.keepIn X.K (.ref f) = true) (hb : Binds X.K fd ps ds) (hd : Vals dvs ds) (hc : Catch X Ex)
    (ha : PA X (e :: es) t) (hdb : (x == ("__debug__" : Str)) = false := by decide) (he : starEach (e :: es) X.env = (false, eval e X.env) :: starEach es X.env := by rfl) (hpl : (backTo pos (starEach es X.env)).any (·.1) = false := by rfl) :
    PE X (.Call (.Name x p) (e :: es) [] pos) (tCallE sp dvs Ex t) := by
  refine .mk fun pins s σ H Q I h => ?_
  refine wpAny_Call_Name_kw (ld_glob I hg hm ?_ hdb)
  refine PySem.W.callWith_K (h₀ := X.base) I.ok.mod.kin hk (thn (ha pos pins s σ H _ I h) fun us s1 ⟨vs, H1, I1, r, q⟩ => ⟨I1.kIn, ?_⟩) he hpl
  exact run_fnE F hr hb hd hc I1 r q
theorem pe_methE {pl : Sem Bool} (he : PE X o ta) (c : Cls X.K C) (hm : Meth X.K C m f) (F : FnOk X.prog X.w X.K X.mg X.base (CXe X.prog X.w) k f fd ps sp) (hr : Room k X.A) (hb : Binds X.K fd ps ds) (hd : Vals dvs ds) (hc : Catch X Ex) (ha : PA X (e :: es) t)
    (hst : starEach (e :: es) X.env = (false, eval e X.env) :: starEach es X.env := by rfl) (hpl : (backTo pos (starEach es X.env)).any (·.1) = false := by rfl)
    (ht : eval (.Call (.Attribute o m apos) (e :: es) [] pos) X.env = (do
      let ov ← eval o X.env
      standAt apos.atName
      let (f, first) ← holding [ov] (getMethod ov m pl)
      callWith pos f first (backTo pos (starEach (e :: es) X.env)) (backToKw pos (keywordEach [] X.env))) := by rfl) :
    PE X (.Call (.Attribute o m apos) (e :: es) [] pos) (tMethE C m sp dvs Ex ta t) := by
  refine .mk fun pins s σ H Q I h => ?_
  refine PySem.W.methodCall_KW (pl := pl) (thn (he pins s σ H _ I h) fun u s1 ⟨x, H1, I1, rx, a, dx, fs, ex, ea, l, q⟩ => ?_) ht
  subst ex
  obtain rfl : u = Value.ref a := rx
  refine getmeth_ok I1 ea c hm l ?_
  refine PySem.W.callWith_K (first := [.ref a]) (h₀ := X.base) I.ok.mod.kin hm.kp (thn (ha pos pins s1 σ H1 _ I1 q) fun us s2 ⟨vs, H2, I2, r, q2⟩ => ⟨I2.kIn, ?_⟩) hst hpl
  exact run_fnE (us := .ref a :: us) (vs := .ref a :: vs) F hr hb hd hc I2 (.cons rfl r) q2
theorem run_makeE {pins : List (Addr × Obj)} {σ : St} {H : Hp} {s : Shared} {Q : VK} {us : List Value} {vs : List V} (M : Mk X.K C f) (F : FnOk X.prog X.w X.K X.mg X.base (CXe X.prog X.w) k f fd ps sp) (hr : Room (k + 1) X.A) (hb : Binds X.K fd ps ds) (hd : Vals dvs ds)
    (hc : Catch X Ex) (I : Inv X pins σ H s) (r : Vals vs us)
    (h : ∀ x dx, H x = none → H dx = none → dx ≠ x → sp (.ref x :: (vs ++ dvs)) (upd (upd H dx (.own x)) x (.ins C dx [])) (fun v H2 => v = .non ∧ Q (.ref x) H2) (Ex σ)) :
    wpAny (model X.prog X.w) X.A (call (.ref C) us) (EP X pins σ Q) X.xe s := by
  have hq := h (s.heap.objs.size + 1) s.heap.objs.size (I.hok.fresh (Nat.le_succ _)) (I.hok.fresh (Nat.le_refl _)) (Nat.ne_of_lt (Nat.lt_succ_self _))
  have I2 := Inv.made (C := C) I
  have r2 : Vals (V.ref (s.heap.objs.size + 1) :: (vs ++ dvs)) (Value.ref (s.heap.objs.size + 1) :: (us ++ ds)) := .cons rfl (r.append hd)
  have hl : (Value.ref (s.heap.objs.size + 1) :: us ++ ds).length = ps.length := by
    have e := r2.length
    rw [F.len _ _ _ _ hq] at e
    exact e.symm
  refine wpAny_call (make_map (f := f) I.kIn M.makes M.init (beq_iff_eq.mp M.fn) (codeAny_mono (F.run _ X.stack _ _ ⟨Value.ref (s.heap.objs.size + 1) :: us, []⟩ (Value.ref (s.heap.objs.size + 1) :: (us ++ ds)) _ _ (Ex σ) (hr.make C us [])
    (I2.env0.make C us []) (hb _ (Value.ref (s.heap.objs.size + 1) :: us) I2.kIn hl) r2 hq) fun r s' hq' => ?_))
  cases r with
  | error e => exact I2.came hc hq'
  | ok fl =>
    cases fl with
    | ret u =>
      obtain ⟨v, H', I3, rv, ev, q3⟩ := I2.after hq'
      subst ev
      exact ⟨rv, ⟨V.ref (s.heap.objs.size + 1), H', I3, rfl, q3⟩⟩
    | next => exact False.elim hq'
    | brk => exact False.elim hq'
    | cont => exact False.elim hq'
theorem pe_makeE (M : Mk X.K C f) (F : FnOk X.prog X.w X.K X.mg X.base (CXe X.prog X.w) k f fd ps sp) (hr : Room (k + 1) X.A) (hg : Gl X x) (hm : X.mg x = some (.ref C)) (hb : Binds X.K fd ps ds) (hd : Vals dvs ds) (hc : Catch X Ex)
    (ha : PA X (e :: es) t) (hdb : (x == ("__debug__" : Str)) = false := by decide) (he : starEach (e :: es) X.env = (false, eval e X.env) :: starEach es X.env := by rfl) (hpl : (backTo pos (starEach es X.env)).any (·.1) = false := by rfl) :
    PE X (.Call (.Name x p) (e :: es) [] pos) (tMakeE C sp dvs Ex t) := by
  refine .mk fun pins s σ H Q I h => ?_
  refine wpAny_Call_Name_kw (ld_glob I hg hm ?_ hdb)
  refine PySem.W.callWith_K (h₀ := X.base) I.ok.mod.kin M.kp (thn (ha pos pins s σ H _ I h) fun us s1 ⟨vs, H1, I1, r, q⟩ => ⟨I1.kIn, ?_⟩) he hpl
  exact run_makeE M F hr hb hd hc I1 r q
end
theorem PS.nox {X : Cx} {st : Stmt} {t : TS} (h : PS X.nox st t) : PS X st t := .mk fun pins s σ H D I hw =>
  wpAny_mono (h pins s σ H D (I.wish _) hw) (fun _ _ q => q.unwish) fun _ _ z => False.elim z
section
variable {P : Program} {w : World} {K : PySem.W.Frag} {mg : Str → Option Value} {base : Heap}
/-- no error comes -/
theorem catch_no {X : Cx} : Catch X (fun _ _ _ _ => False) := fun _ _ _ _ _ _ _ _ _ _ _ q => q.elim
/-- THE RULE for a def from which errors may come -/
theorem Fun.okE {x qual : Str} {st : Stmt} {f : Addr} {fd : FuncData} {N ps : List Str} {k : Nat} {sp : Sp} (F : Fun K x qual st f fd) (S : FnScope N ps (defScope st)) (len : ∀ vs H Q E, sp vs H Q E → vs.length = ps.length)
    (hbody : ∀ (cdv : Value) (A : Around) (outer : List Env) (s : Shared) (H : Hp) (vs : List V) (Q : VK) (E : XK), Room k (A.deeper (envOfC qual (defScope st) s.heap.objs.size f cdv)) → sp vs H Q E →
      ∃ t, PSs (cxOf (CXe P w) P w K mg base N qual (defScope st) f cdv A outer s H E) (defBody st) t ∧ t { nx := fun _ H' => Q .non H', rt := Q } (start N vs) H) : FnOk P w K mg base (CXe P w) (k + 1) f fd ps sp := by
  obtain ⟨oc, od, kV, doc, pm, an, cdv, ct, osl, rfl, lk, hcd⟩ := F.ex
  exact fn_of lk hcd S len fun A outer s H vs Q E hr hsp => hbody cdv A outer s H vs Q E hr hsp
end

/-! ### raise C(..) -/
abbrev bmV : List Value := [.type "ValueError", .type "Exception", .type "BaseException", .type "object"]
abbrev XMk (K : PySem.W.Frag) (C : Addr) : Prop := PySem.W.excIn K C bmV "ValueError.__new__" = true
theorem xobj_of {K : PySem.W.Frag} {h : Heap} {C : Addr} {bmB : List Value} {newId : String} (X : K.In h) (q : PySem.W.excIn K C bmB newId = true) :
    ∃ bm N nm qn bs hdct sn sub ab col dd k0 k1 k2 k3 k5 mN, h.get? C = some (excClassObj nm qn C N bs bm hdct sn sub ab col dd k0 k1 k2 k3 k5 newId) ∧ h.Ns N mN ∧ mN "__init__" = none ∧ OwnTail h bmB bm := by
  unfold PySem.W.excIn at q
  split at q
  · rename_i dd cd sl ho
    split at q
    · rename_i C' bm k0 k1 k2 k3 n k5 hm hs
      simp only [Bool.and_eq_true, beq_iff_eq, Bool.not_eq_true'] at q
      obtain ⟨⟨⟨⟨⟨rfl, rfl⟩, hdel⟩, ht⟩, hok⟩, hni⟩ := q
      obtain ⟨nm, bs, mro, ns, qn, hd, sn, sub, ab, col, del⟩ := cd
      dsimp only at hm hdel hok hni
      subst hm hdel
      obtain ⟨l⟩ := sl
      have hs : l = [k0, k1, k2, k3, some (.builtin n), k5] := hs
      subst hs
      exact ⟨bm, ns, nm, qn, bs, hd, sn, sub, ab, col, dd, k0, k1, k2, k3, k5, _, X _ _ ho, .of_isNs (PySem.W.isNs_of_in X hok), PySem.W.nsMap_none_of_in X hok hni, PySem.W.tail_of_in X ht⟩
    · cases q
  · cases q
def tRaise (E : XK) (C : Addr) (t : TA) : TS := fun _ σ H => t σ H fun vs H1 => vs.length ≤ sizeLine ∧ E (.ref C) none H1
theorem ps_raise {P : Program} {w : World} {K : PySem.W.Frag} {mg : Str → Option Value} {base : Heap} {N : List Str} {qual : Str} {scope : Scope} {f : Addr} {cd : Value} {A : Around} {outer : List Env} {s : Shared} {H : Hp} {E : XK}
    {C : Addr} {x : Str} {np cpos pos : Pos} {e₀ : Expr} {rest : List Expr} {t : TA} (hg : Gl (cxOf (CXe P w) P w K mg base N qual scope f cd A outer s H E) x) (hm : mg x = some (.ref C)) (hC : XMk K C)
    (ha : PA (cxOf (CXe P w) P w K mg base N qual scope f cd A outer s H E) (e₀ :: rest) t)
    (he : starEach (e₀ :: rest) (envOfC qual scope s.heap.objs.size f cd) = (false, eval e₀ (envOfC qual scope s.heap.objs.size f cd)) :: starEach rest (envOfC qual scope s.heap.objs.size f cd) := by rfl)
    (hplain : (backTo cpos (starEach rest (envOfC qual scope s.heap.objs.size f cd))).any (·.1) = false := by rfl) (hdb : (x == ("__debug__" : Str)) = false := by decide) :
    PS (cxOf (CXe P w) P w K mg base N qual scope f cd A outer s H E) (.Raise (some (.Call (.Name x np) (e₀ :: rest) [] cpos)) none pos) (tRaise E C t) := by
  refine .mk fun pins s1 σ H1 D I h => ?_
  obtain ⟨tl, NN, nm, q, bs, hdct, sn, sub, ab, col, dd, k0, k1, k2, k3, k5, mN, hCo, hN, hni, T⟩ := xobj_of I.mod.kin hC
  refine wpAny_Raise_call_subT (C := C) (nm := nm) (q := q) (N := NN) (bs := bs) (bm := tl) (hdct := hdct) (sn := sn) (sub := sub) (ab := ab) (col := col) (dd := dd) (k0 := k0) (k1 := k1) (k2 := k2) (k3 := k3) (k5 := k5)
    F.excBase_ValueError (mN := mN) (T.hasType F.excBase_ValueError.hasBase) (I.ok.hd rfl) (by
      show (backTo cpos (starEach (e₀ :: rest) (envOfC qual scope s.heap.objs.size f cd))).any (·.1) = false
      rw [he]; show (false || (backTo cpos (starEach rest (envOfC qual scope s.heap.objs.size f cd))).any (·.1)) = false; rw [hplain]; rfl) hni (ld_glob I hg hm ⟨rfl, ?_⟩ hdb)
  have h2 := ha cpos pins s1 σ H1 _ I h
  have he' : starEach (e₀ :: rest) (cxOf (CXe P w) P w K mg base N qual scope f cd A outer s H E).env = (false, eval e₀ (cxOf (CXe P w) P w K mg base N qual scope f cd A outer s H E).env) :: starEach rest (cxOf (CXe P w) P w K mg base N qual scope f cd A outer s H E).env := he
  rw [he'] at h2 ⊢
  refine Calls.evalArgs_plain (wpAny_mono h2 (fun vs s₂ ⟨xs, H2, I2, r, hl, q2⟩ => ⟨rfl, by rw [← r.length]; exact hl, I2.bk _ _ hCo, hN.keeps I2.bk, T.keeps I2.bk, fun h' y m => raise_fn I2 m q2⟩) fun _ _ y => y)
end L2
namespace L2
open PySem PySem.Spec PyProof.Rows
/-! ### try: .. except C as n: .. -/
section
variable {X : Cx} {pins : List (Addr × Obj)} {σ : St} {H : Hp} {s : Shared} {x T : Addr}
/-- the pins that every state bears -/
abbrev Cx.pnd (X : Cx) (pn : List (Addr × Obj)) : Cx := { X with pn := pn }
theorem Cx.Ok.pnd (ok : X.Ok) (pn : List (Addr × Obj)) : (X.pnd pn).Ok :=
  ⟨ok.mod, ok.kind, ok.glob, ok.blt, ok.above, ok.inj, ok.has, ok.cab, ok.hd, ok.frames, ok.stk, ok.exf, ok.bs, ok.bsz, ok.noex, ok.exfs, ok.funs, ok.frf⟩
theorem Inv.pnd (I : Inv X pins σ H s) : Inv (X.pnd (X.pn ++ pins)) [] σ H s :=
  ⟨I.ok.pnd _, I.os, I.bare, I.base, I.loc, I.cell, I.free, I.freeC, fun p hp => I.pin p (by simpa using hp), I.hok, I.len⟩
/-- an error has come -/
def XT (Y : Cx) (Ex : St → XK) (e : Value) (s' : Shared) : Prop := ∃ pins σ H x T C, e = .ref x ∧ Inv Y pins σ H s' ∧ Fy Y pins H x ∧ Fy Y pins H T ∧ Trd s'.heap x T C .none ∧ Ex σ C none H
abbrev Cx.tr (X : Cx) (pn : List (Addr × Obj)) (Ex : St → XK) : Cx := (X.pnd pn).wish (XT (X.pnd pn) Ex)
end
def Ends.un (D : Ends) (i : Nat) : Ends := ⟨fun σ H => D.nx (σ.set i none) H, D.rt, fun σ H => D.bk (σ.set i none) H, fun σ H => D.ct (σ.set i none) H⟩
/-- what the body's errors come to -/
def exT (K : PySem.W.Frag) (D : Addr) (i : Nat) (ts : TS) (En : Ends) : St → XK := fun σ' C _ H' => ∀ x, H' x = none → ∃ Ca, C = .ref Ca ∧ PySem.W.exmOne K (.ref Ca) (.ref D) = some true ∧ ts (En.un i) (σ'.set i (some (.ref x))) (upd H' x (.ext (ExAt x Ca)))
def tTry (K : PySem.W.Frag) (D : Addr) (i : Nat) (tb : (St → XK) → TS) (ts : TS) : TS := fun En σ H => tb (exT K D i ts En) En σ H
section
variable {X : Cx} {body suite : List Stmt} {b₀ : Stmt} {tx n : Str} {np hpos pos : Pos} {D : Addr} {i : Nat} {tb : (St → XK) → TS} {ts : TS}
end
section
variable {σ : St} {H : Hp} {Q : VK} {tr : TA} {ta : TE} {nx : St → Hp → Prop} {rt : VK} {bk ct : St → Hp → Prop} {ts : TS}
theorem i_callE {sp : Sp} {dvs : List V} {Ex : St → XK} (h : tr σ H fun vs H1 => sp (vs ++ dvs) H1 Q (Ex σ)) : tCallE sp dvs Ex tr σ H Q := h
theorem i_methE {C : Addr} {m : Str} {sp : Sp} {dvs : List V} {Ex : St → XK} (h : ta σ H fun x H1 => ∃ a dx fs, x = .ref a ∧ H1 a = some (.ins C dx fs) ∧ fs.lookup m = none ∧ tr σ H1 fun vs H2 => sp (x :: (vs ++ dvs)) H2 Q (Ex σ)) : tMethE C m sp dvs Ex ta tr σ H Q := h
theorem i_makeE {C : Addr} {sp : Sp} {dvs : List V} {Ex : St → XK} (h : tr σ H fun vs H1 => ∀ x dx, H1 x = none → H1 dx = none → dx ≠ x → sp (.ref x :: (vs ++ dvs)) (upd (upd H1 dx (.own x)) x (.ins C dx [])) (fun v H2 => v = .non ∧ Q (.ref x) H2) (Ex σ)) : tMakeE C sp dvs Ex tr σ H Q := h
theorem i_raise {E : XK} {C : Addr} {D : Ends} (h : tr σ H fun vs H1 => vs.length ≤ sizeLine ∧ E (.ref C) none H1) : tRaise E C tr D σ H := h
theorem i_try {K : PySem.W.Frag} {D : Addr} {i : Nat} {tb : (St → XK) → TS} (h : tb (exT K D i ts ⟨nx, rt, bk, ct⟩) ⟨nx, rt, bk, ct⟩ σ H) : tTry K D i tb ts ⟨nx, rt, bk, ct⟩ σ H := h
end
end L2
namespace L2
open PySem PySem.Spec PyProof.Rows

/-! ### lists of pairs as tables -/
section
variable {κ : Type} [DecidableEq κ]
def valV (kvs : List (κ × V)) (k : κ) : Option V := (kvs.find? fun kv => decide (kv.1 = k)).map (·.2)
/-- in its place, or at the end -/
def putK (kvs : List (κ × V)) (k : κ) (v : V) : List (κ × V) :=
  if (kvs.any fun kv => decide (kv.1 = k)) = true then kvs.map (fun kv => if kv.1 = k then (kv.1, v) else kv) else kvs ++ [(k, v)]
def dropK (kvs : List (κ × V)) (k : κ) : List (κ × V) := kvs.filter fun kv => decide (kv.1 ≠ k)

theorem valV_pos {p : κ × V} {r : List (κ × V)} {k : κ} (e : p.1 = k) : valV (p :: r) k = some p.2 := by simp [valV, List.find?_cons, e]
theorem valV_neg {p : κ × V} {r : List (κ × V)} {k : κ} (e : ¬ p.1 = k) : valV (p :: r) k = valV r k := by simp [valV, List.find?_cons, e]
theorem valV_any (k : κ) : ∀ kvs : List (κ × V), (kvs.any fun kv => decide (kv.1 = k)) = (valV kvs k).isSome
  | [] => rfl
  | p :: r => by
    rw [List.any_cons]
    by_cases e : p.1 = k
    · simp only [valV_pos e, decide_eq_true e, Bool.true_or, Option.isSome_some]
    · rw [valV_neg e, decide_eq_false e, Bool.false_or]; exact valV_any k r
theorem valV_map (k j : κ) (y : V) : ∀ kvs : List (κ × V), valV (kvs.map fun kv => if kv.1 = k then (kv.1, y) else kv) j = (valV kvs j).map fun x => if j = k then y else x
  | [] => rfl
  | p :: r => by
    have ih := valV_map k j y r
    rw [List.map_cons]
    by_cases h : p.1 = k
    · rw [if_pos h]
      by_cases e : p.1 = j
      · rw [valV_pos (p := (p.1, y)) e, valV_pos e, Option.map_some, if_pos (e.symm.trans h)]
      · rw [valV_neg (p := (p.1, y)) e, valV_neg e, ih]
    · rw [if_neg h]
      by_cases e : p.1 = j
      · rw [valV_pos (p := p) e, valV_pos e, Option.map_some, if_neg (fun z => h (e.trans z))]
      · rw [valV_neg (p := p) e, valV_neg e, ih]
theorem valV_snoc (k j : κ) (y : V) : ∀ kvs : List (κ × V), valV kvs k = none → valV (kvs ++ [(k, y)]) j = if j = k then some y else valV kvs j
  | [], _ => by
    by_cases e : k = j
    · rw [if_pos e.symm]; exact valV_pos (p := (k, y)) e
    · rw [if_neg (fun z => e z.symm)]; exact valV_neg (p := (k, y)) e
  | p :: r, hn => by
    rw [List.cons_append]
    have hk : ¬ p.1 = k := fun z => by rw [valV_pos z] at hn; cases hn
    rw [valV_neg hk] at hn
    have ih := valV_snoc k j y r hn
    by_cases e : p.1 = j
    · rw [valV_pos e, valV_pos e, if_neg (fun z => hk (e.trans z))]
    · rw [valV_neg e, valV_neg e, ih]
theorem valV_put (kvs : List (κ × V)) (k j : κ) (y : V) : valV (putK kvs k y) j = if j = k then some y else valV kvs j := by
  unfold putK
  by_cases a : (kvs.any fun kv => decide (kv.1 = k)) = true
  · rw [if_pos a, valV_map]
    rw [valV_any] at a
    by_cases e : j = k
    · obtain ⟨x, hx⟩ := Option.isSome_iff_exists.mp a
      rw [if_pos e, e, hx, Option.map_some, if_pos rfl]
    · rw [if_neg e]
      cases valV kvs j with
      | none => rfl
      | some x => rw [Option.map_some, if_neg e]
  · rw [if_neg a]
    refine valV_snoc k j y kvs ?_
    rw [valV_any] at a
    cases q : valV kvs k with
    | none => rfl
    | some x => rw [q] at a; exact (a rfl).elim
theorem length_putK (kvs : List (κ × V)) (k : κ) (v : V) : (putK kvs k v).length ≤ kvs.length + 1 := by
  unfold putK
  split
  · rw [List.length_map]; omega
  · rw [List.length_append, List.length_cons, List.length_nil]; omega
theorem putK_new {kvs : List (κ × V)} {k : κ} (v : V) (h : valV kvs k = none) : putK kvs k v = kvs ++ [(k, v)] := by
  unfold putK
  rw [valV_any, h]
  exact if_neg (by decide)

theorem RelO.isSome_eq {o : Option V} {u : Option Value} (r : RelO o u) : o.isSome = u.isSome := by
  cases o with
  | none => cases u with
    | none => rfl
    | some _ => exact (show False from r).elim
  | some _ => cases u with
    | none => exact (show False from r).elim
    | some _ => rfl
theorem RelO.getD {o : Option V} {u : Option Value} {d : V} {d' : Value} (r : RelO o u) (rd : RelV d d') : RelV (o.getD d) (u.getD d') := by
  cases o with
  | none => cases u with
    | none => exact rd
    | some _ => exact (show False from r).elim
  | some _ => cases u with
    | none => exact (show False from r).elim
    | some _ => exact r

/-- raw tables of the same keys -/
theorem KV.val {kvs : List (κ × V)} {vs : List (κ × Value)} (r : KV kvs vs) (k : κ) : RelO (valV kvs k) (valueAt vs k) := by
  unfold KV at r
  induction r with
  | nil => exact True.intro
  | @cons p q ps qs h t ih =>
    obtain ⟨h1, h2⟩ := h
    by_cases e : p.1 = k
    · have e' : q.1 = k := h1.symm.trans e
      have b : valueAt (q :: qs) k = some q.2 := by simp [valueAt, List.find?_cons, e']
      rw [valV_pos e, b]; exact h2
    · have e' : ¬ q.1 = k := fun z => e (h1.trans z)
      have b : valueAt (q :: qs) k = valueAt qs k := by simp [valueAt, List.find?_cons, e']
      rw [valV_neg e, b]; exact ih
theorem KV.any {kvs : List (κ × V)} {vs : List (κ × Value)} (r : KV kvs vs) (k : κ) : (kvs.any fun kv => decide (kv.1 = k)) = vs.any fun kv => decide (kv.1 = k) := by
  unfold KV at r
  induction r with
  | nil => rfl
  | cons h t ih => rw [List.any_cons, List.any_cons, ih, h.1]
theorem KV.repl {kvs : List (κ × V)} {vs : List (κ × Value)} (r : KV kvs vs) (k : κ) {y : V} {u : Value} (ry : RelV y u) :
    KV (kvs.map fun kv => if kv.1 = k then (kv.1, y) else kv) (vs.map fun kv => if kv.1 = k then (kv.1, u) else kv) := by
  unfold KV at r ⊢
  induction r with
  | nil => exact .nil
  | @cons p q ps qs h t ih =>
    rw [List.map_cons, List.map_cons]
    refine .cons ?_ ih
    obtain ⟨h1, h2⟩ := h
    by_cases e : p.1 = k
    · rw [if_pos e, if_pos (h1.symm.trans e)]; exact ⟨h1, ry⟩
    · rw [if_neg e, if_neg (fun z => e (h1.trans z))]; exact ⟨h1, h2⟩
theorem KV.put {kvs : List (κ × V)} {vs : List (κ × Value)} (r : KV kvs vs) (k : κ) {y : V} {u : Value} (ry : RelV y u) : KV (putK kvs k y) (stored vs k u) := by
  unfold putK stored
  rw [r.any k]
  by_cases e : (vs.any fun kv => decide (kv.1 = k)) = true
  · rw [if_pos e, if_pos e]; exact r.repl k ry
  · rw [if_neg e, if_neg e]; exact Paired.snoc r ⟨rfl, ry⟩
theorem KV.drop {kvs : List (κ × V)} {vs : List (κ × Value)} (r : KV kvs vs) (k : κ) : KV (dropK kvs k) (without vs k) := by
  unfold KV at r ⊢
  unfold dropK without
  induction r with
  | nil => exact .nil
  | @cons p q ps qs h t ih =>
    obtain ⟨h1, h2⟩ := h
    rw [List.filter_cons, List.filter_cons]
    by_cases e : p.1 = k
    · have a : ¬ decide (p.1 ≠ k) = true := by simp [e]
      have b : ¬ decide (q.1 ≠ k) = true := by simp [h1.symm.trans e]
      rw [if_neg a, if_neg b]; exact ih
    · have e' : ¬ q.1 = k := fun z => e (h1.trans z)
      have a : decide (p.1 ≠ k) = true := by simp [e]
      have b : decide (q.1 ≠ k) = true := by simp [e']
      rw [if_pos a, if_pos b]; exact .cons ⟨h1, h2⟩ ih
theorem KV.keys {kvs : List (κ × V)} {vs : List (κ × Value)} (r : KV kvs vs) : kvs.map (·.1) = vs.map (·.1) := by
  unfold KV at r
  induction r with
  | nil => rfl
  | cons h t ih => rw [List.map_cons, List.map_cons, ih, h.1]
theorem KV.length {kvs : List (κ × V)} {vs : List (κ × Value)} (r : KV kvs vs) : kvs.length = vs.length := Paired.length r
end


/-! ### a tracked dict, its keys ints and texts or tuples of these -/
theorem kV_is {P : Program} {w : World} {k : Key} {u : Value} (r : RelV (kV k) u) : (mixKind P w).is k u = true := by
  cases k with
  | inl i => obtain ⟨t, e⟩ := (show ∃ t, u = Value.int i t from r); subst e; exact mixKind_int P w i t
  | inr x => obtain ⟨t, e⟩ := (show ∃ t, u = Value.str x t from r); subst e; exact mixKind_str P w x t
theorem items_are {P : Program} {w : World} : ∀ {ks : List Key} {us : List Value}, Vals (ks.map kV) us → ItemsAre (mixKind P w) ks us
  | [], _, r => by rw [List.map_nil] at r; cases r; exact .nil
  | k :: ks, _, r => by
    rw [List.map_cons] at r
    cases r with
    | cons h t => exact .cons (kV_is h) (items_are t)

/-- raw entries of a dict with tuple keys -/
abbrev KT (H : Hp) : List (List Key × V) → List (List Key × Addr × Value) → Prop := Paired fun p q => p.1 = q.1 ∧ H q.2.1 = some (.tup (p.1.map kV)) ∧ RelV p.2 q.2.2
theorem KT.val {H : Hp} {kvs : List (List Key × V)} {xs : List (List Key × Addr × Value)} (r : KT H kvs xs) (k : List Key) : RelO (valV kvs k) ((atKey xs k).map (·.2)) := by
  induction r with
  | nil => exact True.intro
  | @cons p q ps qs h t ih =>
    obtain ⟨h1, _, h2⟩ := h
    by_cases e : p.1 = k
    · have e' : q.1 = k := h1.symm.trans e
      have b : atKey (q :: qs) k = some q.2 := by simp [atKey, List.find?_cons, e']
      rw [valV_pos e, b]; exact h2
    · have e' : ¬ q.1 = k := fun z => e (h1.trans z)
      have b : atKey (q :: qs) k = atKey qs k := by simp [atKey, List.find?_cons, e']
      rw [valV_neg e, b]; exact ih
theorem KT.repl {H : Hp} {kvs : List (List Key × V)} {xs : List (List Key × Addr × Value)} (r : KT H kvs xs) (k : List Key) {y : V} {u : Value} (ry : RelV y u) :
    KT H (kvs.map fun kv => if kv.1 = k then (kv.1, y) else kv) (xs.map (putAt k u)) := by
  induction r with
  | nil => exact .nil
  | @cons p q ps qs h t ih =>
    rw [List.map_cons, List.map_cons]
    refine .cons ?_ ih
    obtain ⟨h1, h2, h3⟩ := h
    unfold putAt
    by_cases e : p.1 = k
    · rw [if_pos e, if_pos (h1.symm.trans e)]; exact ⟨h1, h2, ry⟩
    · rw [if_neg e, if_neg (fun z => e (h1.trans z))]; exact ⟨h1, h2, h3⟩
theorem KT.put {H : Hp} {kvs : List (List Key × V)} {xs : List (List Key × Addr × Value)} (r : KT H kvs xs) (k : List Key) {b : Addr} {y : V} {u : Value} (hb : H b = some (.tup (k.map kV))) (ry : RelV y u) :
    KT H (putK kvs k y) (storedH xs k b u) := by
  have e : (kvs.any fun kv => decide (kv.1 = k)) = (atKey xs k).isSome := by
    rw [valV_any, (r.val k).isSome_eq, Option.isSome_map]
  unfold putK storedH
  rw [e]
  by_cases q : (atKey xs k).isSome = true
  · rw [if_pos q, if_pos q]; exact r.repl k ry
  · rw [if_neg q, if_neg q]; exact Paired.snoc r ⟨rfl, hb, ry⟩
theorem KT.keeps {H H' : Hp} {kvs : List (List Key × V)} {xs : List (List Key × Addr × Value)} (r : KT H kvs xs) (ht : ∀ b ys, H b = some (.tup ys) → H' b = some (.tup ys)) : KT H' kvs xs :=
  Paired.mapP r fun _ _ z => ⟨z.1, ht _ _ z.2.1, z.2.2⟩

section
variable {P : Program} {w : World} {H : Hp} {h : Heap} {a : Addr}
theorem rd_of {u : HO} (ok : HOk P w H h) (e : Rd H a u) : ObjOk P w H h a u := e.ok ok
theorem dk_rd {kvs : List (Key × V)} (ok : HOk P w H h) (e : Rd H a (.dK kvs)) : kvs.length ≤ sizeLine ∧ (a == sysModules) = false ∧ ∃ vs, KV kvs vs ∧ h.DictOf (mixKind P w) a vs :=
  show ObjOk P w H h a (.dK kvs) from rd_of ok e
theorem dk_of {kvs : List (Key × V)} (ok : HOk P w H h) (e : H a = some (.dK kvs)) : kvs.length ≤ sizeLine ∧ (a == sysModules) = false ∧ ∃ vs, KV kvs vs ∧ h.DictOf (mixKind P w) a vs := dk_rd ok (.inl e)
/-- a tracked tuple of ints and texts is a key -/
theorem key_of {ks : List Key} (ok : HOk P w H h) (e : H a = some (.tup (ks.map kV))) : (tupleKind (mixKind P w)).is h ks a := by
  obtain ⟨_, its, r, o, h1, h2, n, h3⟩ := (show ObjOk P w H h a (.tup (ks.map kV)) from ok a _ e)
  exact ⟨o, its.toArray, n, h1, h2, h3, by simpa using items_are r⟩
theorem dt_rd {kvs : List (List Key × V)} (ok : HOk P w H h) (e : Rd H a (.dT kvs)) : kvs.length ≤ sizeLine ∧ (a == sysModules) = false ∧
    ∃ xs, KT H kvs xs ∧ h.DictOfH (tupleKind (mixKind P w)) a xs := by
  obtain ⟨z, y, xs, r, o, es, ep, h1, h2, h3, h4, h5⟩ := (show ObjOk P w H h a (.dT kvs) from rd_of ok e)
  refine ⟨z, y, xs, r, o, es, ep, h1, h2, h3, h4, fun x hx => ?_, h5⟩
  have all : ∀ {l : List (List Key × V)} {m : List (List Key × Addr × Value)}, KT H l m → ∀ x ∈ m, (tupleKind (mixKind P w)).is h x.1 x.2.1 := by
    intro l m q
    induction q with
    | nil => intro x hx; exact nomatch hx
    | @cons p q ps qs hq t ih =>
      intro x hx
      rcases List.mem_cons.mp hx with e | hx
      · subst e
        exact key_of ok (by rw [← hq.1]; exact hq.2.1)
      · exact ih x hx
  exact all r x hx
theorem dt_of {kvs : List (List Key × V)} (ok : HOk P w H h) (e : H a = some (.dT kvs)) : kvs.length ≤ sizeLine ∧ (a == sysModules) = false ∧
    ∃ xs, KT H kvs xs ∧ h.DictOfH (tupleKind (mixKind P w)) a xs := dt_rd ok (.inl e)
end

/-- what the dict at a holds at the key y -/
def DGet (H : Hp) (a : Addr) (y : V) (r : Option V) : Prop :=
  (∃ kvs k, Rd H a (.dK kvs) ∧ y = kV k ∧ r = valV kvs k) ∨ ∃ kvs k b, Rd H a (.dT kvs) ∧ y = .ref b ∧ H b = some (.tup (k.map kV)) ∧ r = valV kvs k
/-- the heap behind a[y] = v -/
def DPut (H : Hp) (a : Addr) (y v : V) (H' : Hp) : Prop :=
  (∃ kvs k, H a = some (.dK kvs) ∧ y = kV k ∧ kvs.length < sizeLine ∧ H' = upd H a (.dK (putK kvs k v))) ∨
  ∃ kvs k b, H a = some (.dT kvs) ∧ y = .ref b ∧ H b = some (.tup (k.map kV)) ∧ kvs.length < sizeLine ∧ H' = upd H a (.dT (putK kvs k v))
theorem DGet.k {H : Hp} {a : Addr} {kvs : List (Key × V)} {k : Key} (e : H a = some (.dK kvs)) : DGet H a (kV k) (valV kvs k) := .inl ⟨kvs, k, .inl e, rfl, rfl⟩
theorem DGet.t {H : Hp} {a b : Addr} {kvs : List (List Key × V)} {k : List Key} (e : H a = some (.dT kvs)) (eb : H b = some (.tup (k.map kV))) : DGet H a (.ref b) (valV kvs k) := .inr ⟨kvs, k, b, .inl e, rfl, eb, rfl⟩
theorem DPut.k {H : Hp} {a : Addr} {kvs : List (Key × V)} {k : Key} {v : V} (e : H a = some (.dK kvs)) (hl : kvs.length < sizeLine) : DPut H a (kV k) v (upd H a (.dK (putK kvs k v))) := .inl ⟨kvs, k, e, rfl, hl, rfl⟩
theorem DPut.t {H : Hp} {a b : Addr} {kvs : List (List Key × V)} {k : List Key} {v : V} (e : H a = some (.dT kvs)) (eb : H b = some (.tup (k.map kV))) (hl : kvs.length < sizeLine) :
    DPut H a (.ref b) v (upd H a (.dT (putK kvs k v))) := .inr ⟨kvs, k, b, e, rfl, eb, hl, rfl⟩


section
variable {X : Cx} {pins : List (Addr × Obj)} {σ : St} {H : Hp} {s : Shared} {a : Addr} {y v : V} {u r : Value} {o : Option V} {A : Around} {E : Value → Shared → Prop}

theorem Inv.big (I : Inv X pins σ H s) : sysModules < s.heap.objs.size := by
  have h : mainGlobals < s.heap.objs.size := (I.mod.glob.keeps I.bk).lt
  exact Nat.lt_trans (by decide) h

/-- d[y], there -/
theorem d_getItem {Q : Value → Shared → Prop} (hu : A.units + 1 < cLine) (I : Inv X pins σ H s) (g : DGet H a y (some v)) (ry : RelV y u) (h : ∀ w' s', Inv X pins σ H s' → RelV v w' → Q w' s') :
    wpAny (model X.prog X.w) A (getItem (.ref a) u) Q E s := by
  rcases g with ⟨kvs, k, e, ey, l⟩ | ⟨kvs, k, b, e, ey, eb, l⟩
  · subst ey
    obtain ⟨z, hd, vs, rel, dd⟩ := dk_rd I.hok e
    obtain ⟨w', hw, rw'⟩ := RelO.some_of (v := v) (o := valueAt vs k) (by rw [l]; exact rel.val k)
    exact wpAny_getItem_of (kV_is ry) dd.mapOf hw (h w' _ (I.tok _) rw')
  · subst ey
    cases (show u = Value.ref b from ry)
    obtain ⟨z, hd, xs, rel, dd⟩ := dt_rd I.hok e
    obtain ⟨w', hw, rw'⟩ := RelO.some_of (v := v) (o := (atKey xs k).map (·.2)) (by rw [l]; exact rel.val k)
    obtain ⟨p, hp, hp2⟩ := Option.map_eq_some_iff.mp hw
    refine wpAny_getItem_heap (tupleKind_room_in1 hu) (key_of I.hok eb) dd hp ?_
    rw [hp2]
    exact h w' _ (I.tok _) rw'
theorem d_notIn {Q : Value → Shared → Prop} (hu : A.units + 1 < cLine) (I : Inv X pins σ H s) (g : DGet H a y o) (ry : RelV y u) (h : ∀ s', Inv X pins σ H s' → Q (.bool (!o.isSome)) s') :
    wpAny (model X.prog X.w) A (compareOp .NotIn u (.ref a)) Q E s := by
  rcases g with ⟨kvs, k, e, ey, l⟩ | ⟨kvs, k, b, e, ey, eb, l⟩
  · subst ey
    obtain ⟨z, hd, vs, rel, dd⟩ := dk_rd I.hok e
    refine wpAny_notIn_of (kV_is ry) hd dd.mapOf ?_
    rw [← (rel.val k).isSome_eq, ← l]
    exact h _ (I.tok _)
  · subst ey
    cases (show u = Value.ref b from ry)
    obtain ⟨z, hd, xs, rel, dd⟩ := dt_rd I.hok e
    refine wpAny_notIn_heap (tupleKind_room_in1 hu) (key_of I.hok eb) hd dd ?_
    have q := (rel.val k).isSome_eq
    rw [Option.isSome_map] at q
    rw [← q, ← l]
    exact h _ (I.tok _)
/-- a dict's object is replaced -/
theorem d_write {h' : Heap} {t' : Nat} {ob : HO} (I : Inv X pins σ H s) (mu : Mut (H a)) (hs : Heap.SameBut a s.heap h') (he : ∃ q, h'.get? a = some q) (new : ObjOk X.prog X.w (upd H a ob) h' a ob) :
    Inv X pins σ (upd H a ob) { s with heap := h', toks := t' } :=
  I.write (x := a) (e := a) mu (.inl rfl) (fun b q hb z => (hs.2 b hb).trans z) he new
theorem dk_new {P : Program} {w : World} {H' : Hp} {h' : Heap} {kvs : List (Key × V)} {vs : List (Key × Value)} (z : kvs.length ≤ sizeLine) (hd : (a == sysModules) = false) (rel : KV kvs vs) (dd : h'.DictOf (mixKind P w) a vs) :
    ObjOk P w H' h' a (.dK kvs) := ⟨z, hd, vs, rel, dd⟩
/-- d[y] = v -/
theorem d_setItem {H' : Hp} {Q : Unit → Shared → Prop} (hu : A.units + 1 < cLine) (I : Inv X pins σ H s) (g : DPut H a y v H') (ry : RelV y u) (rv : RelV v r) (h : ∀ s', Inv X pins σ H' s' → Q () s') :
    wpAny (model X.prog X.w) A (setItem (.ref a) u r) Q E s := by
  rcases g with ⟨kvs, k, e, ey, l, eH⟩ | ⟨kvs, k, b, e, ey, eb, l, eH⟩
  · subst ey eH
    obtain ⟨z, hd, vs, rel, dd⟩ := dk_of I.hok e
    have hz : vs.length ≤ sizeLine := by rw [← rel.length]; exact z
    have hl : (putK kvs k v).length ≤ sizeLine := by have := length_putK kvs k v; omega
    refine wpAny_setItem_pairs (hsz := hz) (kV_is ry) dd fun h' dd' hs => h _ ?_
    have he : ∃ q, h'.get? a = some q := let ⟨q, _, _, hq, _⟩ := dd'; ⟨q, hq⟩
    exact d_write I (by rw [e]; exact True.intro) hs he (dk_new hl hd (rel.put k rv) dd')
  · subst ey eH
    cases (show u = Value.ref b from ry)
    obtain ⟨z, hd, xs, rel, dd⟩ := dt_of I.hok e
    have hz : xs.length ≤ sizeLine := by rw [← Paired.length rel]; exact z
    have hl : (putK kvs k v).length ≤ sizeLine := by have := length_putK kvs k v; omega
    refine wpAny_setItem_heap (hsz := hz) (tupleKind_room_in1 hu) (key_of I.hok eb) dd fun h' dd' hs => h _ ?_
    obtain ⟨q, es, ep, hq, h2, h3, h4, _, h5⟩ := dd'
    refine d_write I (by rw [e]; exact True.intro) hs ⟨q, hq⟩ ⟨hl, hd, _, (rel.put k eb rv).keeps fun c ys ec => ?_, q, es, ep, hq, h2, h3, h4, h5⟩
    rw [upd_ne (ne_of ec e (fun z => nomatch z))]
    exact ec
end

section
variable {X : Cx} {pins : List (Addr × Obj)} {σ : St} {H : Hp} {s : Shared} {a : Addr} {kvs : List (Key × V)} {k : Key} {u : Value} {A : Around} {E : Value → Shared → Prop}
end


/-! ### readings and rules -/
/-- the element of a subscription, not a slice -/
def NoSl (i : Expr) : Prop := ∀ ov iv, subscripted i false ov iv = operate [ov, iv] (getItem ov iv)
theorem subD_of {prog : Program} {w : World} {A : Around} {E : Value → Shared → Prop} {s : Shared} {env : Env} {value slice : Expr} {pos : Pos} {T id : String} {Q : Value → Shared → Prop}
    (hl : typeLookup (.type T) "__getitem__" = pure (some (.builtin id))) (hs : NoSl slice)
    (h : wpAny (model prog w) A (eval value env) (fun o s₁ => wpAny (model prog w) A (eval slice env) (fun i s₂ => s₂.TypeIs o T ∧ wpAny (model prog w) A (getItem o i) Q E s₂) E s₁) E s) :
    wpAny (model prog w) A (eval (.Subscript value slice pos) env) Q E s := by
  refine Subscript_ (wpAny_mono h (fun o s₁ h₁ => wpAny_mono h₁ (fun i s₂ h₂ => ?_) fun _ _ x => x) fun _ _ x => x)
  obtain ⟨hT, h₂⟩ := h₂
  unfold subscriptTail
  refine wpAny_bind ?_
  rw [getitemInPython_of_ne hT.not_modules]
  refine wpAny_bind (wpAny_specialOf hT hl ?_)
  have fin : wpAny (model prog w) A (subscripted slice false o i) (fun r s₃ => wpAny (model prog w) A (letTemporaryGo value o r >>= fun _ => pure r) Q E s₃) E s₂ := by
    rw [hs o i]
    exact wpAny_operating (wpAny_mono h₂ (fun r s₃ h₃ => wpAny_bind (wpAny_letTemporaryGo (wpAny_pure h₃))) fun _ _ x => x)
  first
    | exact wpAny_pure (wpAny_bind fin)
    | exact wpAny_bind (wpAny_pure (wpAny_bind fin))
    | exact wpAny_bind fin

theorem dict_typeIs {X : Cx} {pins : List (Addr × Obj)} {σ : St} {H : Hp} {s : Shared} {a : Addr} {y : V} {o : Option V} (I : Inv X pins σ H s) (g : DGet H a y o) : s.TypeIs (.ref a) "dict" := by
  rcases g with ⟨kvs, k, e, _, _⟩ | ⟨kvs, k, b, e, _, _, _⟩
  · obtain ⟨_, _, vs, _, dd⟩ := dk_rd I.hok e
    exact dd.typeIs
  · obtain ⟨_, _, xs, _, dd⟩ := dt_rd I.hok e
    exact dd.typeIs
/-- d[y] -/
def tDGet (td ty : TE) : TE := fun σ H Q => td σ H fun x H1 => ty σ H1 fun y H2 => ∃ a v, x = .ref a ∧ DGet H2 a y (some v) ∧ Q v H2
/-- y in d, y not in d -/
def tDIn (ty td : TE) : TE := fun σ H Q => ty σ H fun y H1 => td σ H1 fun x H2 => ∃ a o, x = .ref a ∧ DGet H2 a y o ∧ Q (.bl o.isSome) H2
def tDNotIn (ty td : TE) : TE := fun σ H Q => ty σ H fun y H1 => td σ H1 fun x H2 => ∃ a o, x = .ref a ∧ DGet H2 a y o ∧ Q (.bl (!o.isSome)) H2
/-- d[y] = v -/
def sDPut (td ty tv : TE) : TS := fun D σ H => tv σ H fun v H1 => td σ H1 fun x H2 => ty σ H2 fun y H3 => ∃ a H4, x = .ref a ∧ DPut H3 a y v H4 ∧ D.nx σ H4
section
variable {X : Cx} {o i e value : Expr} {pos pos' tpos : Pos} {td ty tv : TE}
theorem pe_dget (hu : X.A.units + 1 < cLine) (ho : PE X o td) (hi : PE X i ty) (hs : NoSl i) : PE X (.Subscript o i pos) (tDGet td ty) := by
  refine .mk fun pins s σ H Q I h => ?_
  refine subD_of PySem.F.slot_dict_getitem.lookup hs (thn (ho pins s σ H _ I h) fun u s1 ⟨x, H1, I1, rx, q1⟩ => thn (hi pins s1 σ H1 _ I1 q1) fun iv s2 ⟨y, H2, I2, ry, a, v, ex, g, q2⟩ => ?_)
  subst ex
  obtain rfl : u = Value.ref a := rx
  exact ⟨dict_typeIs I2 g, d_getItem hu I2 g ry fun w' s3 I3 rw' => ⟨v, H2, I3, rw', q2⟩⟩
theorem pc_dnotin (hu : X.A.units + 1 < cLine) (hi : PE X i ty) (ho : PE X o td) : PC X .NotIn i o (tDNotIn ty td) := by
  intro pins s σ H Q I h
  refine thn (hi pins s σ H _ I h) fun iv s1 ⟨y, H1, I1, ry, q1⟩ => thn (ho pins s1 σ H1 _ I1 q1) fun u s2 ⟨x, H2, I2, rx, a, ov, ex, g, q2⟩ => ?_
  subst ex
  obtain rfl : u = Value.ref a := rx
  exact d_notIn hu I2 g ry fun s3 I3 => ⟨.bl (!ov.isSome), H2, I3, rfl, q2⟩
theorem ps_dput (hu : X.A.units + 1 < cLine) (ho : PE X o td) (hi : PE X i ty) (hv : PE X value tv) (hs : swapsWith value (some (.Subscript o i pos')) pos.line X.env = pure false) :
    PS X (.Assign [.Subscript o i pos'] value pos) (sDPut td ty tv) := by
  refine .mk fun pins s σ H D I h => ?_
  refine wpAny_Assign_Subscript (thn (hv pins s σ H _ I h) fun r s1 ⟨v, H1, I1, rv, q1⟩ => thn (ho pins s1 σ H1 _ I1 q1) fun u s2 ⟨x, H2, I2, rx, q2⟩ => thn (hi pins s2 σ H2 _ I2 q2) fun iv s3 ⟨y, H3, I3, ry, a, H4, ex, g, q3⟩ => ?_) hs
  subst ex
  obtain rfl : u = Value.ref a := rx
  exact d_setItem hu I3 g ry rv fun s4 I4 => ⟨σ, H4, I4, q3⟩
end


/-! ### displays -/
theorem dt_empty {P : Program} {w : World} {H : Hp} (h : Heap) (hb : sysModules < h.objs.size) : ObjOk P w H (h.push { cls := .type "dict", data := .dict #[] }) h.objs.size (.dT []) :=
  ⟨Nat.zero_le _, beq_eq_false_iff_ne.mpr (Ne.symm (Nat.ne_of_lt hb)), [], .nil, _, #[], 0, Heap.get?_push_size _ rfl, ⟨rfl, rfl, rfl⟩, rfl, rfl, List.nodup_nil⟩
/-- {}, to be a dict of the kind that is wanted -/
def tDNewK : TE := fun _ H Q => ∀ p, H p = none → Q (.ref p) (upd H p (.dK []))
def tDNewT : TE := fun _ H Q => ∀ p, H p = none → Q (.ref p) (upd H p (.dT []))
section
variable {X : Cx} {pos : Pos}
theorem pe_dnewT : PE X (.Dict [] [] pos) tDNewT := .mk fun pins s σ H Q I h =>
  wpAny_Dict_empty ⟨.ref s.heap.objs.size, _, I.laid (a := s.heap.objs.size) (o := .dT []) (t' := s.toks) (fun _ _ q => Heap.get?_push_of_some _ q) (Nat.le_refl _) (dt_empty s.heap I.big), rfl, h _ (I.hok.fresh (Nat.le_refl _))⟩
end

/-! ### methods -/
/-- a method call o.m(e) of a built-in, with one argument: what must be seen of the text -/
structure M1 (X : Cx) (o : Expr) (m : Str) (apos : Pos) (e : Expr) (cpos : Pos) : Prop where
  base : attributeBase o m X.env (eval o X.env) = eval o X.env
  few : ((backTo cpos (starEach [e] X.env)).all (fun x => !x.1) && (backToKw cpos (keywordEach [] X.env)).all (fun x => x.1.isSome)
    && decide (([e] : List Expr).length + ([] : List Keyword).length + (if ([] : List Keyword).isEmpty then 0 else 1) < 30)) = true
  line : (apos.endLine == cpos.line) = true
  trees : backTo cpos (starEach [e] X.env) = [(false, eval e X.env)]
structure M2 (X : Cx) (o : Expr) (m : Str) (apos : Pos) (e f : Expr) (cpos : Pos) : Prop where
  base : attributeBase o m X.env (eval o X.env) = eval o X.env
  few : ((backTo cpos (starEach [e, f] X.env)).all (fun x => !x.1) && (backToKw cpos (keywordEach [] X.env)).all (fun x => x.1.isSome)
    && decide (([e, f] : List Expr).length + ([] : List Keyword).length + (if ([] : List Keyword).isEmpty then 0 else 1) < 30)) = true
  line : (apos.endLine == cpos.line) = true
  trees : backTo cpos (starEach [e, f] X.env) = [(false, eval e X.env), (false, eval f X.env)]

/-- a is a dict, whatever its keys -/
def IsD (H : Hp) (a : Addr) : Prop := (∃ kvs, Rd H a (.dK kvs)) ∨ ∃ kvs, Rd H a (.dT kvs)
section
variable {X : Cx} {pins : List (Addr × Obj)} {σ : St} {H : Hp} {s : Shared} {a : Addr} {y d : V} {u r : Value} {o : Option V} {A : Around} {E : Value → Shared → Prop}
end

def tDGet1 (td ty : TE) : TE := fun σ H Q => td σ H fun x H1 => ∃ a, x = .ref a ∧ IsD H1 a ∧ ty σ H1 fun y H2 => ∃ o, DGet H2 a y o ∧ Q (o.getD .non) H2
def tDGet2 (td ty tx : TE) : TE := fun σ H Q => td σ H fun x H1 => ∃ a, x = .ref a ∧ IsD H1 a ∧ ty σ H1 fun y H2 => tx σ H2 fun z H3 => ∃ o, DGet H3 a y o ∧ Q (o.getD z) H3
/-- d.pop(k): there; d.pop(k, x): there or not -/
def tDPop1 (td ty : TE) : TE := fun σ H Q => td σ H fun x H1 => ∃ a, x = .ref a ∧ IsD H1 a ∧ ty σ H1 fun y H2 => ∃ kvs k v, H2 a = some (.dK kvs) ∧ y = kV k ∧ valV kvs k = some v ∧ Q v (upd H2 a (.dK (dropK kvs k)))
section
variable {X : Cx} {o e f : Expr} {apos cpos : Pos} {td ty tx : TE}
end

/-! ### dict(d): a copy -/
section
variable {X : Cx} {pins : List (Addr × Obj)} {σ : St} {H : Hp} {s : Shared} {a : Addr} {kvs : List (Key × V)} {A : Around} {E : Value → Shared → Prop}
end


section
variable {X : Cx} {pins : List (Addr × Obj)} {σ : St} {H : Hp} {s : Shared} {a : Addr} {y : V} {u : Value} {A : Around} {E : Value → Shared → Prop}
end
end L2
namespace L2
open PySem PySem.Spec PyProof.Rows
/-- items of a long display, and a value, a statement with such: shut, so that nobody looks into them -/
@[irreducible] def QA (X : Cx) (es : List Expr) (t : TA) : Prop := PA X es t
@[irreducible] def QE (X : Cx) (e : Expr) (t : TE) : Prop := PE X e t
@[irreducible] def QSs (X : Cx) (st : List Stmt) (t : TS) : Prop := PSs X st t
section
variable {X : Cx} {e : Expr} {es : List Expr} {te : TE} {t : TA} {pos : Pos} {ts us : TS} {st : Stmt} {rest : List Stmt}
theorem qe_of (h : PE X e te) : QE X e te := by unfold QE; exact h
theorem qa_nil : QA X [] tNil := by unfold QA; exact pa_nil
theorem qa_cons (ha : QE X e te) (hr : QA X es t) (h : notStar e = true) : QA X (e :: es) (tCons te t) := by
  unfold QA at hr ⊢
  unfold QE at ha
  exact pa_cons ha hr (star_ok h)
theorem qe_lst (h : QA X es t) : QE X (.List es pos) (tLst t) := by
  unfold QA at h
  exact qe_of (pe_lst h)
theorem pe_q (h : QE X e te) : PE X e te := by
  unfold QE at h
  exact h
end
end L2
namespace L2
open PySem PySem.Spec PyProof.Rows
@[irreducible] def QS (X : Cx) (st : Stmt) (t : TS) : Prop := PS X st t
section
variable {X : Cx} {e : Expr} {te : TE} {pos : Pos} {ts us : TS} {st : Stmt} {rest : List Stmt}
/-- a block, a statement at a time -/
theorem blk_cons {R : TS → Prop} (h1 : PS X st ts) (h2 : ∃ us, PSs X rest us ∧ R (tSeq ts us)) : ∃ t, PSs X (st :: rest) t ∧ R t := let ⟨_, a, b⟩ := h2; ⟨_, pss_cons h1 a, b⟩
end
end L2
namespace L2
open PySem PySem.Spec PyProof.Rows
/-! ### all(..) of a list of truths -/
theorem vals_bls : ∀ {bs : List Bool} {us : List Value}, Vals (bs.map V.bl) us → us = bs.map Value.bool
  | [], _, .nil => rfl
  | b :: r, _, .cons a t => by rw [show _ = Value.bool b from a, vals_bls t]; rfl
theorem all_range (bs : List Bool) : ((List.range bs.length).all fun i => (bs[i]?).getD true) = bs.all id := by
  rw [Bool.eq_iff_iff, List.all_eq_true, List.all_eq_true]
  constructor
  · intro h b hb
    obtain ⟨i, hi, rfl⟩ := List.getElem_of_mem hb
    have := h i (List.mem_range.mpr hi)
    rw [List.getElem?_eq_getElem hi] at this
    exact this
  · intro h i hi
    have hi := List.mem_range.mp hi
    rw [List.getElem?_eq_getElem hi]
    exact h _ (List.getElem_mem hi)
section
variable {X : Cx}
theorem call_all (hc : X.calm = true) : CallR X (.builtin "all") (fun xs H Q => ∃ p bs, xs = [.ref p] ∧ SqL X.K H p (List.map V.bl bs) ∧ Q (.bl (bs.all id)) H) := by
  intro pins s σ H xs us Q I r h
  obtain ⟨p, bs, rfl, hq, q⟩ := h
  obtain ⟨u, rfl, rx⟩ := vals1 r
  cases rx
  obtain ⟨its, r', pl, hz⟩ := I.list hq
  obtain rfl := vals_bls r'
  have hl := pl.isList
  have hlt : p < s.heap.objs.size := by obtain ⟨_, e, _⟩ := hl; exact Heap.lt_size e
  refine call_all_walk (wpAny_pyIter_list hl ?_)
  refine ⟨s.heap.objs.size, [s.heap.objs.size, p], [s.heap.objs.size], (bs.map Value.bool).toArray.size, _, _, fun i => (bs[i]?).getD true, rfl, Walks.list (A := X.A.in1) (show X.A.handled = none from I.ok.hd hc) _ p (Nat.ne_of_lt hlt) (bs.map Value.bool).toArray,
    ⟨⟨_, Heap.get?_push_size _ rfl, rfl, rfl⟩, hl.push _⟩, fun i v s' Q' E' hP hQ => ?_, fun h' tk hk => ?_⟩
  · have hP : (bs.map Value.bool)[i]? = some v := by simpa using hP
    rw [List.getElem?_map] at hP
    cases e : bs[i]? with
    | none => rw [e] at hP; cases hP
    | some b =>
      dsimp only at hQ
      rw [e] at hP hQ
      cases hP
      exact wpAny_truthy_bool hQ
  · have e : ((List.range (bs.map Value.bool).toArray.size).all fun i => (bs[i]?).getD true) = bs.all id := by
      rw [List.size_toArray, List.length_map]
      exact all_range bs
    rw [e]
    refine ⟨.bl (bs.all id), H, I.kept (t' := tk) fun b x e => hk b x (fun hm => ?_) (Heap.get?_push_of_some _ e), rfl, q⟩
    rw [List.mem_singleton.mp hm] at e
    exact Nat.lt_irrefl _ (Heap.lt_size e)
end
end L2
/-! A COMPREHENSION of lists that names locals of the def around (they are cells there): one clause, a plain name, no test -/
namespace L2
open PySem PySem.Spec PyProof.Rows
theorem relabel_lookup {env : Env} : ∀ {names : List (Str × NameKind)} {x : Str} {k : NameKind},
    (names.map fun (n, k) => if (k == NameKind.free && env.scope.kind == .function && env.kindOf n == some .cell) then (n, NameKind.cell) else (n, k)).lookup x = some k → ∃ k0, (x, k0) ∈ names ∧ (k = k0 ∨ k0 = .free)
  | [], _, _, h => by simp at h
  | (n, k1) :: r, x, k, h => by
    rw [List.map_cons] at h
    by_cases hx : x = n
    · subst hx
      refine ⟨k1, .head _, ?_⟩
      dsimp only at h
      split at h
      · rename_i hc
        simp only [Bool.and_eq_true, beq_iff_eq] at hc
        exact .inr hc.1.1
      · simp [List.lookup] at h
        exact .inl h.symm
    · have : (x == n) = false := by simpa using hx
      have h' : (r.map fun (n, k) => if (k == NameKind.free && env.scope.kind == .function && env.kindOf n == some .cell) then (n, NameKind.cell) else (n, k)).lookup x = some k := by
        dsimp only at h
        split at h <;> simpa [List.lookup, this] using h
      obtain ⟨k0, m, q⟩ := relabel_lookup h'
      exact ⟨k0, .tail _ m, q⟩
/-- the cells that the block takes along -/
def clOf (ys : List Str) (env : Env) : List (Str × Addr) := ys.map fun y => (y, (env.cells.lookup y).getD 0)
theorem clOf_mem {env : Env} : ∀ {ys : List Str} {y : Str} {c : Addr}, (clOf ys env).lookup y = some c → y ∈ ys ∧ c = (env.cells.lookup y).getD 0
  | [], _, _, h => by simp [clOf] at h
  | z :: r, y, c, h => by
    by_cases hy : y = z
    · subst hy
      simp [clOf, List.lookup] at h
      exact ⟨.head _, h.symm⟩
    · have hb : (y == z) = false := by simpa using hy
      have h' : (clOf r env).lookup y = some c := by simpa [clOf, List.lookup, hb] using h
      obtain ⟨m, e⟩ := clOf_mem h'
      exact ⟨.tail _ m, e⟩
theorem clOf_get {env : Env} : ∀ {ys : List Str} {y : Str}, y ∈ ys → (clOf ys env).lookup y = some ((env.cells.lookup y).getD 0)
  | z :: r, y, h => by
    by_cases hy : y = z
    · subst hy
      simp [clOf, List.lookup]
    · have hb : (y == z) = false := by simpa using hy
      have hm : y ∈ r := by
        rcases List.mem_cons.mp h with q | q
        · exact absurd q hy
        · exact q
      have := clOf_get (env := env) hm
      simpa [clOf, List.lookup, hb] using this
abbrev Cx.compF (X : Cx) (scope : Scope) (ys : List Str) (C : Addr) (x : Str) (s2 : Shared) (H2 : Hp) (fp : List Addr) : Cx :=
  { X with N := x :: ys, s₀ := s2, H₀ := H2, env := compEnvC scope (clOf ys X.env) C X.env, outer := X.stack, ex := fp, fn := fun _ => false, pn := [], xe := fun _ _ => False }
def tCompBF (J : It) (te : TE) (fr : St) (D : Addr) (R : Hp → Prop) (H1 : Hp) : Prop := ∃ W : Nat → Nat → Hp → Prop, (∃ m, W 0 m (upd H1 D (.lst []))) ∧
  ∀ i m H2, W i m H2 → (J.stop i H2 ∧ R H2) ∨ (J.go i H2 ∧ ∀ x H3, J.yld i H2 x H3 → te (some x :: fr) H3 fun y H4 => ∃ ys, H4 D = some (.lst ys) ∧ ys.length < sizeLine ∧ ∃ m', m' < m ∧ W (i + 1) m' (upd H4 D (.lst (ys ++ [y]))))
def takeS (js : List Nat) (σ : St) : St := js.map fun j => (σ[j]?).getD none
def tCompF (wi : TI) (te : TE) (js : List Nat) : TE := fun σ H Q => wi σ H fun J H1 => ∀ D, H1 D = none → tCompBF J te (takeS js σ) D (fun H2 => Q (.ref D) H2) H1
section
variable {X : Cx} {iter elt : Expr} {x : Str} {px pos : Pos} {scope : Scope} {te : TE} {wi : TI} {pins : List (Addr × Obj)} {σ : St} {ys : List Str} {js : List Nat}
theorem i_compF {H : Hp} {Q : VK} (h : wi σ H fun J H1 => ∀ D, H1 D = none → tCompBF J te (takeS js σ) D (fun H2 => Q (.ref D) H2) H1) : tCompF wi te js σ H Q := h
/-- over a list that the block leaves as it is -/
theorem compF_list {K : PySem.W.Frag} {a D : Addr} {xs : List V} {te : TE} {fr : St} {R : Hp → Prop} {H1 : Hp} (Pv : Nat → Hp → Prop) (h0 : Pv 0 (upd H1 D (.lst []))) (hl : ∀ i H, i ≤ xs.length → Pv i H → SqL K H a xs)
    (hs : ∀ i x H, xs[i]? = some x → i < xs.length → Pv i H → te (some x :: fr) H fun y H4 => ∃ ys, H4 D = some (.lst ys) ∧ ys.length < sizeLine ∧ ∃ m', m' < xs.length - i ∧ cW xs.length Pv (i + 1) m' (upd H4 D (.lst (ys ++ [y]))))
    (hd : ∀ H, Pv xs.length H → R H) : tCompBF (Itl K a) te fr D R H1 := by
  refine ⟨cW xs.length Pv, ⟨xs.length, by simp, Nat.zero_le _, h0⟩, ?_⟩
  rintro i m H ⟨rfl, hi, p⟩
  have q := hl i H hi p
  by_cases hlt : i < xs.length
  · refine .inr ⟨⟨xs, xs[i], q, by simp [hlt]⟩, fun x H' y => ?_⟩
    obtain ⟨e, y⟩ := y
    subst e
    exact hs i x _ (y xs q) hlt p
  · have e : i = xs.length := by omega
    subst e
    exact .inl ⟨⟨xs, q, Nat.le_refl _⟩, hd H p⟩
/-- over a range -/
theorem compF_range {lo : Int} {n : Nat} {D : Addr} {te : TE} {fr : St} {R : Hp → Prop} {H1 : Hp} (Pv : Nat → Hp → Prop) (h0 : Pv 0 (upd H1 D (.lst [])))
    (hs : ∀ i H, i < n → Pv i H → te (some (.int (lo + i)) :: fr) H fun y H4 => ∃ ys, H4 D = some (.lst ys) ∧ ys.length < sizeLine ∧ ∃ m', m' < n - i ∧ cW n Pv (i + 1) m' (upd H4 D (.lst (ys ++ [y]))))
    (hd : ∀ H, Pv n H → R H) : tCompBF (Itr lo n) te fr D R H1 := by
  refine ⟨cW n Pv, ⟨n, by simp, Nat.zero_le _, h0⟩, ?_⟩
  rintro i m H ⟨rfl, hi, p⟩
  by_cases hlt : i < n
  · refine .inr ⟨hlt, fun x H' y => ?_⟩
    obtain ⟨e, y⟩ := y
    subst e y
    exact hs i _ hlt p
  · have e : i = n := by omega
    subst e
    exact .inl ⟨Nat.le_refl _, hd H p⟩
end
end L2
namespace L2
theorem all_nil {α : Type} {P : α → Prop} : ∀ y ∈ ([] : List α), P y := fun _ h => nomatch h
theorem all_cons {α : Type} {P : α → Prop} {y : α} {r : List α} (h : P y) (t : ∀ z ∈ r, P z) : ∀ z ∈ y :: r, P z := fun z hz => by
  rcases List.mem_cons.mp hz with e | hz
  · exact e ▸ h
  · exact t z hz
end L2
/-! for k, x in enumerate(xs); sum(..) of a list of ints -/
namespace L2
open PySem PySem.Spec PyProof.Rows
/-- the pairs of the list at a -/
def Ite (K : PySem.W.Frag) (a : Addr) : It :=
  ⟨fun i H => ∃ xs x, SqL K H a xs ∧ xs[i]? = some x, fun i H y H' => ∃ t x, y = .ref t ∧ H t = none ∧ H' = upd H t (.tup [.int i, x]) ∧ ∀ xs, SqL K H a xs → xs[i]? = some x, fun i H => ∃ xs, SqL K H a xs ∧ xs.length ≤ i⟩
section
variable {prog : Program} {w : World} {A : Around} {E : Value → Shared → Prop} {s : Shared}
end
section
variable {X : Cx}
def iEnum (K : PySem.W.Frag) (ta : TA) : TI := fun σ H R => ta σ H fun vs H1 => ∃ a, vs = [.ref a] ∧ (∃ xs, SqL K H1 a xs) ∧ R (Ite K a) H1
theorem i_iEnum {K : PySem.W.Frag} {ta : TA} {σ : St} {H : Hp} {R : It → Hp → Prop} (h : ta σ H fun vs H1 => ∃ a, vs = [.ref a] ∧ (∃ xs, SqL K H1 a xs) ∧ R (Ite K a) H1) : iEnum K ta σ H R := h
/-! ### sum -/
theorem ints_are : ∀ {ns : List Int} {us : List Value}, Vals (ns.map V.int) us → ∃ xs : Array (Int × Tok), us.toArray = intItems xs ∧ xs.toList.map (·.1) = ns
  | [], _, .nil => ⟨#[], by simp [intItems], rfl⟩
  | n :: r, _, .cons (l₂ := us) a t => by
    obtain ⟨tk, rfl⟩ := a
    obtain ⟨xs, e1, e2⟩ := ints_are t
    refine ⟨((n, tk) :: xs.toList).toArray, ?_, by simp [e2]⟩
    have : us = (intItems xs).toList := by rw [← e1]
    rw [this]
    simp [intItems]
theorem call_sum (hc : X.calm = true) : CallR X (.builtin "sum") (fun vs H Q => ∃ p ns, vs = [.ref p] ∧ SqL X.K H p (List.map V.int ns) ∧ Q (.int ns.sum) H) := by
  intro pins s σ H xs us Q I r h
  obtain ⟨p, ns, rfl, hq, q⟩ := h
  obtain ⟨u, rfl, rx⟩ := vals1 r
  cases rx
  obtain ⟨its, r', pl, hz⟩ := I.list hq
  obtain ⟨ys, e1, e2⟩ := ints_are r'
  have hl : s.heap.IsList p (intItems ys) := e1 ▸ pl.isList
  refine sum_intListG (I.ok.hd hc) hl fun h' tk t' hk => ?_
  rw [preSum_eq, List.take_of_length_le (by simp), e2]
  exact ⟨.int ns.sum, H, I.kept (t' := tk) hk, ⟨_, rfl⟩, q⟩
end
end L2
namespace L2
open PySem PySem.Spec PyProof.Rows
/-! ### one of two readings of the same expression (a method of one class or of another one) -/
section
variable {X : Cx} {e : Expr} {t1 t2 : TE}
def tAlt (t1 t2 : TE) : TE := fun σ H Q => t1 σ H Q ∨ t2 σ H Q
theorem pe_alt (h1 : PE X e t1) (h2 : PE X e t2) : PE X e (tAlt t1 t2) := by
  refine .mk fun pins s σ H Q I h => ?_
  rcases h with h | h
  · exact h1 pins s σ H Q I h
  · exact h2 pins s σ H Q I h
theorem i_altL {σ : St} {H : Hp} {Q : VK} (h : t1 σ H Q) : tAlt t1 t2 σ H Q := .inl h
theorem i_altR {σ : St} {H : Hp} {Q : VK} (h : t2 σ H Q) : tAlt t1 t2 σ H Q := .inr h
end
/-- what is told apart of a new object -/
theorem new_obj {H : Hp} {p : Addr} {o : HO} {A : Hp → Prop} (hp : H p = none) (h : ∀ H', Same H H' → H' p = some o → A H') : A (upd H p o) := h _ (same_upd hp) upd_same
theorem new_obj2 {α : Type} {H : Hp} {p : Addr} {o : HO} {A : Hp → α → Prop} {Q : α} (hp : H p = none) (h : ∀ H', Same H H' → H' p = some o → A H' Q) : A (upd H p o) Q := h _ (same_upd hp) upd_same
/-! ### comprehensions: over a tuple; and where each item comes of its own, and nothing that stood is changed -/
section
variable {K : PySem.W.Frag} {a D : Addr} {xs : List V} {te : TE} {fr : St} {R : Hp → Prop} {H1 : Hp}
theorem compF_tup (Pv : Nat → Hp → Prop) (h0 : Pv 0 (upd H1 D (.lst []))) (hl : ∀ i H, i ≤ xs.length → Pv i H → SqT K H a xs)
    (hs : ∀ i x H, xs[i]? = some x → i < xs.length → Pv i H → te (some x :: fr) H fun y H4 => ∃ ys, H4 D = some (.lst ys) ∧ ys.length < sizeLine ∧ ∃ m', m' < xs.length - i ∧ cW xs.length Pv (i + 1) m' (upd H4 D (.lst (ys ++ [y]))))
    (hd : ∀ H, Pv xs.length H → R H) : tCompBF (Itt K a) te fr D R H1 := by
  refine ⟨cW xs.length Pv, ⟨xs.length, by simp, Nat.zero_le _, h0⟩, ?_⟩
  rintro i m H ⟨rfl, hi, p⟩
  have q := hl i H hi p
  by_cases hlt : i < xs.length
  · refine .inr ⟨⟨xs, xs[i], q, by simp [hlt]⟩, fun x H' y => ?_⟩
    obtain ⟨e, y⟩ := y
    subst e
    exact hs i x _ (y xs q) hlt p
  · have e : i = xs.length := by omega
    subst e
    exact .inl ⟨⟨xs, q, Nat.le_refl _⟩, hd H p⟩
theorem comp_tup (Pv : Nat → Hp → Prop) (h0 : Pv 0 (upd H1 D (.lst []))) (hl : ∀ i H, i ≤ xs.length → Pv i H → SqT K H a xs)
    (hs : ∀ i x H, xs[i]? = some x → i < xs.length → Pv i H → te [some x] H fun y H4 => ∃ ys, H4 D = some (.lst ys) ∧ ys.length < sizeLine ∧ ∃ m', m' < xs.length - i ∧ cW xs.length Pv (i + 1) m' (upd H4 D (.lst (ys ++ [y]))))
    (hd : ∀ H, Pv xs.length H → R H) : tCompB (Itt K a) te D R H1 := by
  refine ⟨cW xs.length Pv, ⟨xs.length, by simp, Nat.zero_le _, h0⟩, ?_⟩
  rintro i m H ⟨rfl, hi, p⟩
  have q := hl i H hi p
  by_cases hlt : i < xs.length
  · refine .inr ⟨⟨xs, xs[i], q, by simp [hlt]⟩, fun x H' y => ?_⟩
    obtain ⟨e, y⟩ := y
    subst e
    exact hs i x _ (y xs q) hlt p
  · have e : i = xs.length := by omega
    subst e
    exact .inl ⟨⟨xs, q, Nat.le_refl _⟩, hd H p⟩
/-- the list as far as it is made -/
def Mp (H1 : Hp) (D : Addr) (f : Nat → V) (i : Nat) (H : Hp) : Prop := Same H1 H ∧ H D = some (.lst ((List.range i).map f))
theorem Mp.zero {f : Nat → V} (hD : H1 D = none) : Mp H1 D f 0 (upd H1 D (.lst [])) := ⟨same_upd hD, upd_same⟩
theorem Mp.step {f : Nat → V} {n i : Nat} {H4 : Hp} {y : V} (hD : H1 D = none) (hn : n < sizeLine) (hi : i < n) (S : Same H1 H4) (h4 : H4 D = some (.lst ((List.range i).map f))) (e : y = f i) :
    ∃ ys, H4 D = some (.lst ys) ∧ ys.length < sizeLine ∧ ∃ m', m' < n - i ∧ cW n (Mp H1 D f) (i + 1) m' (upd H4 D (.lst (ys ++ [y]))) := by
  refine comp_next (n := n) h4 (by rw [List.length_map, List.length_range]; omega) hi ⟨?_, ?_⟩
  · intro b o hb
    rw [upd_ne (ne_of_none hb hD)]
    exact S b o hb
  · rw [upd_same, List.range_succ, List.map_append, e]
    rfl
theorem range_map {f : Nat → V} {g : V → V} {xs : List V} (h : ∀ i x, xs[i]? = some x → f i = g x) : (List.range xs.length).map f = xs.map g := by
  refine List.ext_getElem? fun i => ?_
  rw [List.getElem?_map, List.getElem?_map]
  by_cases hi : i < xs.length
  · rw [List.getElem?_range hi, List.getElem?_eq_getElem hi]
    show some (f i) = some (g xs[i])
    rw [h i _ (List.getElem?_eq_getElem hi)]
  · rw [List.getElem?_eq_none (by rw [List.length_range]; omega), List.getElem?_eq_none (by omega)]
    rfl
def ofG (g : V → V) (xs : List V) (i : Nat) : V := ((xs[i]?).map g).getD .non
theorem ofG_at {g : V → V} {xs : List V} {i : Nat} {x : V} (h : xs[i]? = some x) : ofG g xs i = g x := by
  unfold ofG
  rw [h]
  rfl
def MpK (H1 : Hp) (D : Addr) (f : Nat → V) (n i : Nat) : VK := fun y H4 => ∃ ys, H4 D = some (.lst ys) ∧ ys.length < sizeLine ∧ ∃ m', m' < n - i ∧ cW n (Mp H1 D f) (i + 1) m' (upd H4 D (.lst (ys ++ [y])))
theorem Mp.done {g : V → V} {i : Nat} {x y : V} {H4 : Hp} (hD : H1 D = none) (hn : xs.length < sizeLine) (hx : xs[i]? = some x) (S : Same H1 H4) (h4 : H4 D = some (.lst ((List.range i).map (ofG g xs)))) (e : y = g x) : MpK H1 D (ofG g xs) xs.length i y H4 := by
  have hi : i < xs.length := by
    rcases Nat.lt_or_ge i xs.length with q | q
    · exact q
    · rw [List.getElem?_eq_none q] at hx; cases hx
  exact Mp.step hD hn hi S h4 (e.trans (ofG_at hx).symm)
theorem Mp.doneR {f : Nat → V} {n i : Nat} {y : V} {H4 : Hp} (hD : H1 D = none) (hn : n < sizeLine) (hi : i < n) (S : Same H1 H4) (h4 : H4 D = some (.lst ((List.range i).map f))) (e : y = f i) : MpK H1 D f n i y H4 := Mp.step hD hn hi S h4 e
theorem compF_listM (g : V → V) (hq : SqL K H1 a xs) (hD : H1 D = none)
    (hs : ∀ i x H, xs[i]? = some x → Same H1 H → H D = some (.lst ((List.range i).map (ofG g xs))) → te (some x :: fr) H (MpK H1 D (ofG g xs) xs.length i))
    (hd : ∀ H, Same H1 H → H D = some (.lst (xs.map g)) → R H) : tCompBF (Itl K a) te fr D R H1 :=
  compF_list (Mp H1 D (ofG g xs)) (Mp.zero hD) (fun _ _ _ p => p.1.seq hq) (fun i x H hx hi p => hs i x H hx p.1 p.2)
    fun H p => hd H p.1 (by rw [← range_map (f := ofG g xs) fun i x => ofG_at]; exact p.2)
theorem compF_tupM (g : V → V) (hq : SqT K H1 a xs) (hD : H1 D = none)
    (hs : ∀ i x H, xs[i]? = some x → Same H1 H → H D = some (.lst ((List.range i).map (ofG g xs))) → te (some x :: fr) H (MpK H1 D (ofG g xs) xs.length i))
    (hd : ∀ H, Same H1 H → H D = some (.lst (xs.map g)) → R H) : tCompBF (Itt K a) te fr D R H1 :=
  compF_tup (Mp H1 D (ofG g xs)) (Mp.zero hD) (fun _ _ _ p => p.1.tup hq) (fun i x H hx hi p => hs i x H hx p.1 p.2)
    fun H p => hd H p.1 (by rw [← range_map (f := ofG g xs) fun i x => ofG_at]; exact p.2)
theorem comp_tupM (g : V → V) (hq : SqT K H1 a xs) (hD : H1 D = none)
    (hs : ∀ i x H, xs[i]? = some x → Same H1 H → H D = some (.lst ((List.range i).map (ofG g xs))) → te [some x] H (MpK H1 D (ofG g xs) xs.length i))
    (hd : ∀ H, Same H1 H → H D = some (.lst (xs.map g)) → R H) : tCompB (Itt K a) te D R H1 :=
  comp_tup (Mp H1 D (ofG g xs)) (Mp.zero hD) (fun _ _ _ p => p.1.tup hq) (fun i x H hx hi p => hs i x H hx p.1 p.2)
    fun H p => hd H p.1 (by rw [← range_map (f := ofG g xs) fun i x => ofG_at]; exact p.2)
theorem compF_rangeM {lo : Int} {n : Nat} (f : Nat → V) (hD : H1 D = none)
    (hs : ∀ i H, i < n → Same H1 H → H D = some (.lst ((List.range i).map f)) → te (some (.int (lo + i)) :: fr) H (MpK H1 D f n i))
    (hd : ∀ H, Same H1 H → H D = some (.lst ((List.range n).map f)) → R H) : tCompBF (Itr lo n) te fr D R H1 :=
  compF_range (Mp H1 D f) (Mp.zero hD) (fun i H hi p => hs i H hi p.1 p.2) fun H p => hd H p.1 p.2
theorem i_iRng2 {tr : TA} {σ : St} {H : Hp} {R : It → Hp → Prop} (h : tr σ H fun vs H1 => ∃ i j : Int, vs = [.int i, .int j] ∧ (-(2 ^ 62) ≤ i ∧ i < 2 ^ 62 ∧ -(2 ^ 62) ≤ j ∧ j < 2 ^ 62) ∧ R (Itr i (j - i).toNat) H1) : iRng2 tr σ H R := h
end
/-! ### C() of a class without an __init__ of its own -/
structure Mk0 (K : PySem.W.Frag) (C : Addr) : Prop where
  makes : PySem.W.makesIn K C = true
  init : PySem.W.findIn K (.ref C) "__init__" = some (some (.builtin "object.__init__"))
  kp : PySem.W.keepIn K (.ref C) = true
def tMake0 (C : Addr) : TE := fun _ H Q => ∀ x dx, H x = none → H dx = none → dx ≠ x → Q (.ref x) (upd (upd H dx (.own x)) x (.ins C dx []))
theorem i_make0 {C : Addr} {σ : St} {H : Hp} {Q : VK} (h : ∀ x dx, H x = none → H dx = none → dx ≠ x → Q (.ref x) (upd (upd H dx (.own x)) x (.ins C dx []))) : tMake0 C σ H Q := h
end L2
namespace L2
open PySem PySem.Spec PyProof.Rows
/-- len, by a name of its own (inside a comprehension) -/
def rLenS (K : PySem.W.Frag) : List V → Hp → VK → Prop := fun xs H Q => ∃ p ys, xs = [.ref p] ∧ (SqL K H p ys ∨ SqT K H p ys) ∧ Q (.int ys.length) H
theorem call_lenS {X : Cx} : CallR X (.builtin "len") (rLenS X.K) := call_len_seq
theorem i_lenS {K : PySem.W.Frag} {H : Hp} {Q : VK} {p : Addr} {ys : List V} (h : SqL K H p ys) (k : Q (.int ys.length) H) : rLenS K [.ref p] H Q := ⟨p, ys, rfl, .inl h, k⟩
end L2
/-! comprehensions with a target of several names -/
namespace L2
open PySem PySem.Spec PyProof.Rows
abbrev Cx.compT (X : Cx) (scope : Scope) (ys : List Str) (C : Addr) (xs : List Str) (s2 : Shared) (H2 : Hp) (fp : List Addr) : Cx :=
  { X with N := xs ++ ys, s₀ := s2, H₀ := H2, env := compEnvC scope (clOf ys X.env) C X.env, outer := X.stack, ex := fp, fn := fun _ => false, pn := [], xe := fun _ _ => False }
def tCompBT (J : It) (g : TG) (te : TE) (n : Nat) (fr : St) (D : Addr) (R : Hp → Prop) (H1 : Hp) : Prop := ∃ W : Nat → Nat → Hp → Prop, (∃ m, W 0 m (upd H1 D (.lst []))) ∧
  ∀ i m H2, W i m H2 → (J.stop i H2 ∧ R H2) ∨ (J.go i H2 ∧ ∀ x H3 pre, J.yld i H2 x H3 → List.length pre = n → g x (pre ++ fr) H3 fun σ' H' => (∃ pre', List.length pre' = n ∧ σ' = pre' ++ fr) ∧ te σ' H' fun y H4 => ∃ ys, H4 D = some (.lst ys) ∧ ys.length < sizeLine ∧ ∃ m', m' < m ∧ W (i + 1) m' (upd H4 D (.lst (ys ++ [y]))))
def tCompT (wi : TI) (g : TG) (te : TE) (n : Nat) (js : List Nat) : TE := fun σ H Q => wi σ H fun J H1 => ∀ D, H1 D = none → tCompBT J g te n (takeS js σ) D (fun H2 => Q (.ref D) H2) H1
section
variable {X : Cx} {iter elt tg : Expr} {xs : List Str} {g : TG} {pos : Pos} {scope : Scope} {te : TE} {wi : TI} {pins : List (Addr × Obj)} {σ : St} {ys : List Str} {js : List Nat}
theorem comp_coreT {s2 : Shared} {H2 : Hp} {it : Addr} {fp : List Addr} {tn : Nat → Heap → Prop} {J : It} (hc : X.calm = true)
    (he : ∀ (C : Addr) (s2 : Shared) (H2 : Hp) (fp : List Addr), PE (X.compT scope ys C xs s2 H2 fp) elt te)
    (hgt : ∀ (C : Addr) (s2 : Shared) (H2 : Hp) (fp : List Addr), PG (X.compT scope ys C xs s2 H2 fp) tg g)
    (hcell : ∀ y ∈ scope.names, y.2 ≠ .cell) (hkind : scope.kind = .function)
    (hfr : ∀ y ∈ scope.names, y.2 = .free → y.1 ∈ ys) (hyc : ∀ y ∈ ys, X.env.kindOf y = some .cell) (hrel : ∀ y ∈ ys, (relabel scope X.env).names.lookup y = some .cell) (hjs : js.map (fun j => X.N[j]?) = ys.map some)
    (I2 : Inv X pins σ H2 s2) (T : Turn X.prog X.w X.K tg J fp it tn) (st2 : tn 0 s2.heap) (f2 : ∀ b ∈ fp, FpOk X pins H2 b)
    {R : Addr → Hp → Prop} (h : ∀ D, H2 D = none → tCompBT J g te xs.length (takeS js σ) D (R D) H2) {RR : Value → Addr → Result → Shared → Prop} {E : Value → Shared → Prop}
    (hR : ∀ (D C : Addr) (H' : Hp) (s' : Shared) (m : Str → Option Value), FpOk X pins H' C → s'.heap.Ns C m → Inv X pins σ H' s' → R D H' → RR (.ref D) C (.ok .next) s') :
    wpAny (model X.prog X.w) X.A (newList []) (fun acc s₃ => wpAny (model X.prog X.w) X.A (newFunctionEnv scope X.env.globals (clOf ys X.env) [] X.env.qual none .none (some X.env)) (fun cenv s₄ =>
      codeAny (model X.prog X.w) X.A (.compStart (.ListComp elt [⟨tg, iter, [], 0⟩] scope pos) 0 (.ref it) acc { cenv with scope := relabel scope X.env }) (RR acc cenv.locals) s₄) E s₃) E s2 := by
  have hsub : ∀ y c, (clOf ys X.env).lookup y = some c → X.env.cells.lookup y = some c := fun y c e => by
    obtain ⟨m, rfl⟩ := clOf_mem e
    obtain ⟨c', q⟩ := I2.ok.has y (.inl (hyc y m))
    rw [q]
    rfl
  refine wpAny_newObj_type (wpAny_newFunctionEnv hcell (by intro y hy; simp at hy) (fun h₁ hns₁ hsb₁ => ?_) hkind)
  dsimp only at hns₁ hsb₁ ⊢
  generalize hH2 : s2.heap.push { cls := .type "list", dict := none, data := .seq ([] : List Value).toArray } = G at hns₁ hsb₁ ⊢
  have hC : G.objs.size = s2.heap.objs.size + 1 := by rw [← hH2, Heap.size_push]
  have hDC : s2.heap.objs.size ≠ G.objs.size := by rw [hC]; exact Nat.ne_of_lt (Nat.lt_succ_self _)
  have hCle : s2.heap.objs.size ≤ G.objs.size := by rw [hC]; exact Nat.le_succ _
  have below : ∀ b, b < s2.heap.objs.size → b ≠ G.objs.size ∧ b ≠ s2.heap.objs.size := fun b hb => ⟨by rw [hC]; exact Nat.ne_of_lt (Nat.lt_succ_of_lt hb), Nat.ne_of_lt hb⟩
  have old : ∀ b o, s2.heap.get? b = some o → h₁.get? b = some o := fun b o e => hsb₁.extBut b o (below b (Heap.lt_size e)).1 (Heap.get?_push_of_some _ (hH2 ▸ Heap.get?_push_of_some _ e))
  have hacc : h₁.get? s2.heap.objs.size = some { cls := .type "list", data := .seq ([] : List Value).toArray } := hsb₁.extBut _ _ hDC (Heap.get?_push_of_some _ (hH2 ▸ Heap.get?_push_size _ rfl))
  have fpl : ∀ b ∈ fp, b < s2.heap.objs.size := fun b hb => let ⟨_, e, _⟩ := T.obj 0 _ st2 b hb; Heap.lt_size e
  have fpS : ∀ b ∈ fp, b ∉ frs X.stack := fun b hb z => (List.mem_cons.mp (I2.stkSub b z)).elim (f2 b hb).2.1 (f2 b hb).2.2.1
  have nC : H2 G.objs.size = none := I2.hok.fresh hCle
  have nD : H2 s2.heap.objs.size = none := I2.hok.fresh (Nat.le_refl _)
  have cellOld : ∀ y c, (clOf ys X.env).lookup y = some c → ∃ v o, s2.heap.get? c = some o ∧ o.data = .cell v := fun y c e => by
    obtain ⟨v, o, q1, q2⟩ := I2.cell y c (hsub y c e)
    exact ⟨v, o, q1, q2⟩
  have okC : (X.compT scope ys G.objs.size xs s2 H2 fp).Ok := by
    refine ⟨I2.ok.mod, hkind, I2.ok.glob, I2.ok.blt, hCle, fun y z c e e' => I2.ok.inj y z c (hsub y c e) (hsub z c e'), fun y e => ?_, fun y c z e => (by cases z), I2.ok.hd, I2.ok.frames, .inl rfl, fun b hb => ⟨(below b (fpl b hb)).1, fun y c e => (f2 b hb).2.2.2.2.1 y c (hsub y c e)⟩, I2.bs, ?_, fun b o e hb => ?_, fun b hb => fpS b hb, I2.stack, I2.stkFree⟩
    · have e' : (relabel scope X.env).names.lookup y = some .cell ∨ (relabel scope X.env).names.lookup y = some .free := e
      have hin : y ∈ ys := by
        rcases e' with e' | e'
        · obtain ⟨k0, m, q⟩ := relabel_lookup e'
          rcases q with q | q
          · exact absurd q.symm (hcell _ m)
          · exact hfr _ m q
        · obtain ⟨k0, m, q⟩ := relabel_lookup e'
          rcases q with q | q
          · exact hfr _ m q.symm
          · exact hfr _ m q
      exact ⟨_, clOf_get hin⟩
    · exact Nat.le_trans I2.ok.bsz I2.sz
    · rcases (f2 b hb).2.2.2.1 with z | z
      · exact I2.ok.noex b o e z
      · exact absurd (Nat.lt_of_lt_of_le (Heap.lt_size (I2.ok.bs b o e).1) z) (Nat.lt_irrefl _)
  have hlen : (takeS js σ).length = ys.length := by
    have := congrArg List.length hjs
    simpa [takeS] using this
  have I3 : ∀ tk, Inv (X.compT scope ys G.objs.size xs s2 H2 fp) [] (List.replicate xs.length none ++ takeS js σ) (upd H2 s2.heap.objs.size (.lst [])) { s2 with heap := h₁, toks := tk } := fun tk =>
    ⟨okC, rfl, I2.bare, Un.laid old (Nat.le_refl _) nD, ⟨_, hns₁, fun i y v e1 e2 e3 => by
        by_cases hi0 : i < xs.length
        · rw [List.getElem?_append_left (by simpa using hi0), List.getElem?_replicate, if_pos hi0] at e2
          cases e2
        · obtain ⟨i, rfl⟩ : ∃ i', i = xs.length + i' := ⟨i - xs.length, by omega⟩
          have e1 : ys[i]? = some y := by rw [List.getElem?_append_right (by omega)] at e1; simpa using e1
          have e2 : (takeS js σ)[i]? = some (some v) := by rw [List.getElem?_append_right (by simp)] at e2; simpa using e2
          have hy : y ∈ ys := List.mem_of_getElem? e1
          have ej := congrArg (fun l => l[i]?) hjs
          simp only [List.getElem?_map, e1, Option.map_some] at ej
          cases q : js[i]? with
          | none => rw [q] at ej; cases ej
          | some j =>
            rw [q] at ej
            have ej : X.N[j]? = some y := by simpa using ej
            have es : σ[j]? = some (some v) := by
              simp only [takeS, List.getElem?_map, q, Option.map_some, Option.some.injEq] at e2
              cases r : σ[j]? with
              | none => rw [r] at e2; cases e2
              | some w' => rw [r] at e2; rw [show w' = some v from e2]
            obtain ⟨m0, _, hl0⟩ := I2.loc
            obtain ⟨u, ru, lk⟩ := hl0 j y v ej es (.inr (.inl (hyc y hy)))
            refine ⟨u, ru, .inr ⟨.inl (hrel y hy), ?_⟩⟩
            rcases lk with ⟨k1, _⟩ | ⟨_, c, ec, o, ho, hd⟩
            · rw [hyc y hy] at k1; cases k1
            · refine ⟨c, ?_, o, old c o ho, hd⟩
              show (clOf ys X.env).lookup y = some c
              rw [clOf_get hy, ec]
              rfl⟩, fun y c e => (by
        obtain ⟨v, o, q1, q2⟩ := cellOld y c e
        exact ⟨v, o, old c o q1, q2⟩), (by show upd H2 s2.heap.objs.size _ G.objs.size = none; rw [upd_ne hDC.symm]; exact nC), fun y c e => (by
        obtain ⟨v, o, q1, q2⟩ := cellOld y c e
        show upd H2 s2.heap.objs.size _ c = none
        rw [upd_ne (below c (Heap.lt_size q1)).2]
        exact I2.freeC y c (hsub y c e)), fun p hp => (by simp at hp),
      I2.hok.laid old (Nat.le_refl _) ⟨Nat.zero_le _, [], _, .nil, hacc⟩, by show (List.replicate xs.length none ++ takeS js σ).length = (xs ++ ys).length; simp [hlen]⟩
  have stat : ∀ {H' : Hp}, (∀ b ∈ fp, H' b = none) → ∀ b ∈ fp, FpOk (X.compT scope ys G.objs.size xs s2 H2 fp) [] H' b := fun hn b hb => ⟨hn b hb, (below b (fpl b hb)).1, fpS b hb, .inl hb, fun y c e => (f2 b hb).2.2.2.2.1 y c (hsub y c e), fun p hp => (by simp at hp)⟩
  have loop : ∀ tk, codeAny (model X.prog X.w) X.A (.compLoop (.ListComp elt [⟨tg, iter, [], 0⟩] scope pos) 0 (.ref it) (.ref s2.heap.objs.size) (compEnvC scope (clOf ys X.env) G.objs.size X.env)) (RR (.ref s2.heap.objs.size) G.objs.size) { s2 with heap := h₁, toks := tk } := by
    intro tk
    obtain ⟨W, ⟨m0, w0⟩, turn⟩ := h s2.heap.objs.size nD
    refine codeAny_loop rfl (fun n s' => ∃ i v H', List.length v = xs.length ∧ Inv (X.compT scope ys G.objs.size xs s2 H2 fp) [] (v ++ takeS js σ) H' s' ∧ tn i s'.heap ∧ (∀ b ∈ fp, H' b = none) ∧ W i n H') (fun n s' hI => ?_) m0
      ⟨0, List.replicate xs.length none, _, by simp, I3 tk, T.keep 0 _ _ st2 (fun b hb o e => old b o e), fun b hb => (by rw [upd_ne (below b (fpl b hb)).2]; exact (f2 b hb).1), w0⟩
    obtain ⟨i, v, H', hv, I, st, fr, w⟩ := hI
    show wpAny _ _ ((compTurn (.ListComp elt [⟨tg, iter, [], 0⟩] scope pos) 0 (.ref it) (.ref s2.heap.objs.size) (compEnvC scope (clOf ys X.env) G.objs.size X.env)).onRaise (fun x => do noteFrame x (compEnvC scope (clOf ys X.env) G.objs.size X.env); theTreesLotGoes x)) _ _ s'
    refine wpAny_noted ?_
    rw [compTurn_list1]
    refine wpAny_bind (wpAny_standAt (wpAny_bind ?_))
    rcases turn i n H' w with ⟨stop, q⟩ | ⟨go, step⟩
    · refine thn (T.done (X.compT scope ys G.objs.size xs s2 H2 fp) rfl rfl rfl hc i [] s' (v ++ takeS js σ) H' _ I (stat fr) st stop) fun r s4 ⟨hr, I4⟩ => ?_
      subst hr
      refine wpAny_pure ?_
      obtain ⟨m, hn, _⟩ := I4.loc
      exact hR _ _ H' s4 m (I2.fpOk hCle I4.free) hn (I2.call' (ch := fp) I4.os I4.base I4.hok I4.bare fun b hb => ⟨(f2 b hb).2.2.2.1, (f2 b hb).2.1, (f2 b hb).2.2.2.2.1, (f2 b hb).2.2.2.2.2⟩) q
    · refine thn (T.item (X.compT scope ys G.objs.size xs s2 H2 fp) rfl rfl rfl hc i [] s' (v ++ takeS js σ) H' _ I (stat fr) st go) fun r s4 ⟨u, hr, h4⟩ => ?_
      subst hr
      refine wpAny_bind (thn h4 fun _ s5 ⟨y, H5, I5, r5, y5, st5, fr5⟩ => wpAny_bind ?_)
      have I5' := I5.pinned (stat fr5) (T.obj _ _ st5)
      refine thnF (hgt _ _ _ _ _ s5 (v ++ takeS js σ) H5 y u _ I5' r5 (step y H5 v y5 hv)) fun _ s6 ⟨σ', H6, I6, ⟨pre', hp', ep⟩, q6⟩ => ?_
      subst ep
      refine wpAny_bind (wpAny_bind (thnF (he _ _ _ _ _ s6 (pre' ++ takeS js σ) H6 _ I6 q6) fun u2 s7 ⟨y2, H7, I7, r7, zs, hD, hl, m', hm, w'⟩ => wpAny_bind ?_))
      refine thnF (mt_append _ s7 (pre' ++ takeS js σ) H7 (.ref s2.heap.objs.size) [y2] (.ref s2.heap.objs.size) [u2] (fun _ H8 => H8 = upd H7 s2.heap.objs.size (.lst (zs ++ [y2]))) I7 rfl (.cons r7 .nil) ⟨_, zs, y2, rfl, rfl, hD, hl, rfl⟩) fun _ s8 ⟨_, H8, I8, _, e8⟩ => ?_
      subst e8
      have pin : ∀ b ∈ fp, ∀ o, s5.heap.get? b = some o → s8.heap.get? b = some o ∧ upd H7 s2.heap.objs.size (HO.lst (zs ++ [y2])) b = none := fun b hb o e =>
        ⟨(I8.pin (b, o) (List.mem_append_right _ (List.mem_append_right _ (mem_pinsAt hb e)))).1, (I8.pin (b, o) (List.mem_append_right _ (List.mem_append_right _ (mem_pinsAt hb e)))).2.1⟩
      refine wpAny_pure (wpAny_pure ⟨rfl, m', hm, i + 1, pre', _, hp', I8.unpinned, T.keep _ _ _ st5 fun b hb o e => (pin b hb o e).1, fun b hb => ?_, w'⟩)
      obtain ⟨o, e, d⟩ := T.obj _ _ st5 b hb
      exact (pin b hb o e).2
  exact codeAny_compStart_list (loop _) (T.self X.A 0 _ _ _ (T.keep 0 _ _ st2 (fun b hb o e => old b o e)) (loop _))
/-- a comprehension as a value -/
theorem pe_compT (hc : X.calm = true) (hi : PI X tg iter wi) (he : ∀ (C : Addr) (s2 : Shared) (H2 : Hp) (fp : List Addr), PE (X.compT scope ys C xs s2 H2 fp) elt te) (hjs : js.map (fun j => X.N[j]?) = ys.map some)
    (hgt : ∀ (C : Addr) (s2 : Shared) (H2 : Hp) (fp : List Addr), PG (X.compT scope ys C xs s2 H2 fp) tg g)
    (hclos : closureFor scope X.env = pure (clOf ys X.env)) (hyc : ∀ y ∈ ys, X.env.kindOf y = some .cell) (hrel : ∀ y ∈ ys, (relabel scope X.env).names.lookup y = some .cell)
    (hfr : ∀ y ∈ scope.names, y.2 = .free → y.1 ∈ ys := by decide +kernel) (hcell : ∀ y ∈ scope.names, y.2 ≠ .cell := by decide +kernel) (hkind : scope.kind = .function := by rfl)
    (hnames : ∀ y ∈ scope.names, y.2 = .local → scope.names.lookup y.1 = some .local := by decide +kernel) (hs : ∀ x, foldedSetIterable iter X.env x = pure x := by intro _; rfl) :
    PE X (.ListComp elt [⟨tg, iter, [], 0⟩] scope pos) (tCompT wi g te xs.length js) := by
  refine .mk fun pins s σ H Q I h => ?_
  rw [eval_ListComp]
  refine wpAny_comprehension_free (use := none) rfl hs hclos hkind hnames (thn (hi pins s σ H _ I h) fun v s1 h1 => thn h1 fun itv s2 h2 => ?_)
  obtain ⟨it, fp, tn, J, H2, e, I2, T, st2, f2, h⟩ := h2
  subst e
  refine comp_coreT (R := fun D H' => Q (.ref D) H') (RR := compPost (model X.prog X.w) X.A X.xe none (EP X pins σ Q)) hc he hgt hcell hkind hfr hyc hrel hjs I2 T st2 f2 h ?_
  intro D C H' s' m f hn I' q
  refine ⟨m, hn, fun h' sb => ⟨.ref D, H', ?_, rfl, q⟩⟩
  exact I'.turned (t' := s'.toks) (fun b o hb e => sb.extBut b o hb e) f.1 f.2.1 f.2.2.2.1 f.2.2.2.2.1 f.2.2.2.2.2
theorem i_compT {H : Hp} {Q : VK} {n : Nat} (h : wi σ H fun J H1 => ∀ D, H1 D = none → tCompBT J g te n (takeS js σ) D (fun H2 => Q (.ref D) H2) H1) : tCompT wi g te n js σ H Q := h
end
section
variable {X : Cx} {iter elt : Expr} {x : Str} {px pos : Pos} {scope : Scope} {te : TE} {wi : TI} {pins : List (Addr × Obj)} {σ : St} {ys : List Str} {js : List Nat}
theorem compFT {J : It} {fr : St} {D : Addr} {R : Hp → Prop} {H1 : Hp} (h : tCompBF J te fr D R H1) : tCompBT J (gName 0) te 1 fr D R H1 := by
  obtain ⟨W, w0, st⟩ := h
  refine ⟨W, w0, fun i m H2 w => (st i m H2 w).imp id fun ⟨go, y⟩ => ⟨go, fun x H3 pre hy hp => ?_⟩⟩
  match pre, hp with
  | [z], _ => exact ⟨⟨[some x], rfl, rfl⟩, y x H3 hy⟩
theorem comp_coreF {s2 : Shared} {H2 : Hp} {it : Addr} {fp : List Addr} {tn : Nat → Heap → Prop} {J : It} (hc : X.calm = true)
    (he : ∀ (C : Addr) (s2 : Shared) (H2 : Hp) (fp : List Addr), PE (X.compF scope ys C x s2 H2 fp) elt te)
    (hcell : ∀ y ∈ scope.names, y.2 ≠ .cell) (hkind : scope.kind = .function) (hx : scope.names.lookup x = some .local) (hnd : (x :: ys).Nodup)
    (hfr : ∀ y ∈ scope.names, y.2 = .free → y.1 ∈ ys) (hyc : ∀ y ∈ ys, X.env.kindOf y = some .cell) (hrel : ∀ y ∈ ys, (relabel scope X.env).names.lookup y = some .cell) (hjs : js.map (fun j => X.N[j]?) = ys.map some)
    (I2 : Inv X pins σ H2 s2) (T : Turn X.prog X.w X.K (.Name x px) J fp it tn) (st2 : tn 0 s2.heap) (f2 : ∀ b ∈ fp, FpOk X pins H2 b)
    {R : Addr → Hp → Prop} (h : ∀ D, H2 D = none → tCompBF J te (takeS js σ) D (R D) H2) {RR : Value → Addr → Result → Shared → Prop} {E : Value → Shared → Prop}
    (hR : ∀ (D C : Addr) (H' : Hp) (s' : Shared) (m : Str → Option Value), FpOk X pins H' C → s'.heap.Ns C m → Inv X pins σ H' s' → R D H' → RR (.ref D) C (.ok .next) s') :
    wpAny (model X.prog X.w) X.A (newList []) (fun acc s₃ => wpAny (model X.prog X.w) X.A (newFunctionEnv scope X.env.globals (clOf ys X.env) [] X.env.qual none .none (some X.env)) (fun cenv s₄ =>
      codeAny (model X.prog X.w) X.A (.compStart (.ListComp elt [⟨.Name x px, iter, [], 0⟩] scope pos) 0 (.ref it) acc { cenv with scope := relabel scope X.env }) (RR acc cenv.locals) s₄) E s₃) E s2 :=
  comp_coreT (tg := .Name x px) (xs := [x]) (g := gName 0) hc he (fun C s2 H2 fp => pg_name (i := 0) hnd rfl (Or.inl (lookup_relabel_local hx)) (Or.inr (lookup_relabel_local hx))) hcell hkind hfr hyc hrel hjs I2 T st2 f2 (fun D hD => compFT (h D hD)) hR
theorem pe_compF (hc : X.calm = true) (hi : PI X (.Name x px) iter wi) (he : ∀ (C : Addr) (s2 : Shared) (H2 : Hp) (fp : List Addr), PE (X.compF scope ys C x s2 H2 fp) elt te) (hjs : js.map (fun j => X.N[j]?) = ys.map some)
    (hclos : closureFor scope X.env = pure (clOf ys X.env)) (hnd : (x :: ys).Nodup := by decide) (hyc : ∀ y ∈ ys, X.env.kindOf y = some .cell) (hrel : ∀ y ∈ ys, (relabel scope X.env).names.lookup y = some .cell)
    (hfr : ∀ y ∈ scope.names, y.2 = .free → y.1 ∈ ys := by decide +kernel) (hcell : ∀ y ∈ scope.names, y.2 ≠ .cell := by decide +kernel) (hkind : scope.kind = .function := by rfl)
    (hnames : ∀ y ∈ scope.names, y.2 = .local → scope.names.lookup y.1 = some .local := by decide +kernel) (hx : scope.names.lookup x = some .local := by rfl) (hs : ∀ x, foldedSetIterable iter X.env x = pure x := by intro _; rfl) :
    PE X (.ListComp elt [⟨.Name x px, iter, [], 0⟩] scope pos) (tCompF wi te js) := by
  refine .mk fun pins s σ H Q I h => ?_
  rw [eval_ListComp]
  refine wpAny_comprehension_free (use := none) rfl hs hclos hkind hnames (thn (hi pins s σ H _ I h) fun v s1 h1 => thn h1 fun itv s2 h2 => ?_)
  obtain ⟨it, fp, tn, J, H2, e, I2, T, st2, f2, h⟩ := h2
  subst e
  refine comp_coreF (R := fun D H' => Q (.ref D) H') (RR := compPost (model X.prog X.w) X.A X.xe none (EP X pins σ Q)) hc he hcell hkind hx hnd hfr hyc hrel hjs I2 T st2 f2 h ?_
  intro D C H' s' m f hn I' q
  refine ⟨m, hn, fun h' sb => ⟨.ref D, H', ?_, rfl, q⟩⟩
  exact I'.turned (t' := s'.toks) (fun b o hb e => sb.extBut b o hb e) f.1 f.2.1 f.2.2.2.1 f.2.2.2.2.1 f.2.2.2.2.2
/-- name = a comprehension -/
theorem ps_compF {i : Nat} {y : Str} {py spos : Pos} (hN : X.N.Nodup) (hy : X.N[i]? = some y) (hl : X.env.scope.names.lookup y = some .local) (hc : X.calm = true) (hi : PI X (.Name x px) iter wi)
    (he : ∀ (C : Addr) (s2 : Shared) (H2 : Hp) (fp : List Addr), PE (X.compF scope ys C x s2 H2 fp) elt te) (hjs : js.map (fun j => X.N[j]?) = ys.map some)
    (hclos : closureFor scope X.env = pure (clOf ys X.env)) (hyc : ∀ y ∈ ys, X.env.kindOf y = some .cell) (hrel : ∀ y ∈ ys, (relabel scope X.env).names.lookup y = some .cell)
    (hsw : swapsWith (.ListComp elt [⟨.Name x px, iter, [], 0⟩] scope pos) (some (.Name y py)) spos.line X.env = pure true := by rfl) (hnd : (x :: ys).Nodup := by decide)
    (hfr : ∀ y ∈ scope.names, y.2 = .free → y.1 ∈ ys := by decide +kernel) (hcell : ∀ y ∈ scope.names, y.2 ≠ .cell := by decide +kernel) (hkind : scope.kind = .function := by rfl)
    (hnames : ∀ y ∈ scope.names, y.2 = .local → scope.names.lookup y.1 = some .local := by decide +kernel) (hx : scope.names.lookup x = some .local := by rfl) (hs : ∀ x, foldedSetIterable iter X.env x = pure x := by intro _; rfl) :
    PS X (.Assign [.Name y py] (.ListComp elt [⟨.Name x px, iter, [], 0⟩] scope pos) spos) (tAsg (tCompF wi te js) (gName i)) := by
  refine .mk fun pins s σ H D0 I h => ?_
  rw [exec_Assign_Name_used _ _ _ _ hsw]
  refine wpAny_bind (wpAny_standAt (wpAny_bind ?_))
  show wpAny _ X.A (do let _ ← comprehension (.ListComp elt [⟨.Name x px, iter, [], 0⟩] scope pos) scope X.env _ (newList []) false (eval iter X.env) (some (assign (.Name y py) X.env))) _ _ s
  refine wpAny_bind (wpAny_mono (wpAny_comprehension_free (use := some (assign (.Name y py) X.env)) (Q := fun _ s' => SP X pins D0 .next s') rfl hs hclos hkind hnames (thn (hi pins s σ H _ I h) fun v s1 h1 => thn h1 fun itv s2 h2 => ?_)) (fun _ s' hq => wpAny_pure (wpAny_pure hq)) fun _ _ e => e)
  obtain ⟨it, fp, tn, J, H2, e, I2, T, st2, f2, h⟩ := h2
  subst e
  refine comp_coreF (R := fun D H' => gName i (.ref D) σ H' D0.nx) (RR := compPost (model X.prog X.w) X.A X.xe (some (assign (.Name y py) X.env)) (fun _ s' => SP X pins D0 .next s')) hc he hcell hkind hx hnd hfr hyc hrel hjs I2 T st2 f2 h ?_
  intro D C H' s' m f hn I' q
  refine wpAny_assign_Name (store_ok2 (v := V.ref D) I' hN hy (Or.inl hl) rfl (fun s'' I'' k'' => ?_) (Or.inr hl))
  refine ⟨m, ?_, fun h' sb => ⟨_, H', ?_, q⟩⟩
  · obtain ⟨b, sb, hb⟩ := k''
    refine hn.sameBut sb fun z => ?_
    rcases hb with hb | hb
    · exact f.2.1 (z.trans hb)
    · exact f.2.2.2.2.1 y b hb z.symm
  · exact I''.turned (t' := s''.toks) (fun b o hb e => sb.extBut b o hb e) f.1 f.2.1 f.2.2.2.1 f.2.2.2.2.1 f.2.2.2.2.2
end
end L2
/-! range with a step; enumerate of a tuple -/
namespace L2
open PySem PySem.Spec PyProof.Rows
/-! ### range(lo, hi, st) -/
def Itrs (lo st : Int) (n : Nat) : It := ⟨fun i _ => i < n, fun i H x H' => H' = H ∧ x = .int (lo + i * st), fun i _ => n ≤ i⟩
/-- how many -/
def rgN (lo hi st : Int) : Nat := if lo < hi then ((hi - lo - 1) / st + 1).toNat else 0
section
variable {X : Cx} {tg : Expr}
def iRng3 (ta : TA) : TI := fun σ H R => ta σ H fun vs H1 => ∃ i j st : Int, vs = [.int i, .int j, .int st] ∧ (0 ≤ i ∧ i < 100000000 ∧ 0 ≤ j ∧ j < 100000000 ∧ 0 < st ∧ st < 1000000) ∧ R (Itrs i st (rgN i j st)) H1
theorem i_iRng3 {tr : TA} {σ : St} {H : Hp} {R : It → Hp → Prop} (h : tr σ H fun vs H1 => ∃ i j st : Int, vs = [.int i, .int j, .int st] ∧ (0 ≤ i ∧ i < 100000000 ∧ 0 ≤ j ∧ j < 100000000 ∧ 0 < st ∧ st < 1000000) ∧ R (Itrs i st (rgN i j st)) H1) : iRng3 tr σ H R := h
end
/-! ### enumerate of a tuple -/
section
variable {prog : Program} {w : World} {A : Around} {E : Value → Shared → Prop} {s : Shared}
theorem nextOf_tupI {it l : Addr} {i : Nat} {items} {x : Value} {Q : Value → Shared → Prop} (hit : s.heap.IsTupleIter it l i) (hl : s.heap.IsTuple l items) (hx : items[i]? = some x)
    (hQ : ∀ h', h'.IsTupleIter it l (i + 1) → Heap.SameBut it s.heap h' → Q x { s with heap := h' }) : wpAny (model prog w) A (Builtin.SmallTypes.nextOf (.ref it)) Q E s := by
  obtain ⟨ob, hob, hcl, hdt⟩ := id hit
  obtain ⟨ol, hol, _, nl, hdl⟩ := hl
  unfold Builtin.SmallTypes.nextOf
  refine wpAny_bind (wpAny_callSpecial?_slot (name := Str.ofString "__next__") hit.typeIs slot_tupleiter_next (wpAny_call_entry slot_tupleiter_next hit.typeIs entry_tupleiter_next ?_ (args_tupleiter_next _)))
  show wpAny _ _ (field (.ref it) 0 >>= _) _ _ s
  refine wpAny_bind (wpAny_field hob hdt (x := .ref l) rfl ?_)
  show wpAny _ _ (if (Value.ref l == Value.none) = true then _ else _) _ _ s
  rw [if_neg (show ¬ ((Value.ref l == Value.none) = true) from Bool.false_ne_true)]
  show wpAny _ _ (field (.ref it) 1 >>= _) _ _ s
  refine wpAny_bind (wpAny_field hob hdt (x := .int i 0) rfl ?_)
  show wpAny _ _ (seqItems? (.ref l) >>= _) _ _ s
  refine wpAny_bind (wpAny_seqItems hol hdl ?_)
  simp only [Int.toNat_natCast, hx]
  refine wpAny_bind (wpAny_setField hob hdt (by simp) (wpAny_pure ⟨x, rfl, wpAny_pure (hQ _ ⟨_, Heap.get?_update_self _ hob (Obj.isFreed_of_fields (Obj.data_mapFields hdt _)), (Obj.cls_mapFields ..).trans hcl, ?_⟩ (Heap.SameBut.update ..))⟩))
  rw [Obj.data_mapFields hdt]
  simp [rawInt]
theorem nextOf_tupE {it l : Addr} {i : Nat} {items} {Q : Value → Shared → Prop} (hh : A.handled = none) (hit : s.heap.IsTupleIter it l i) (hl : s.heap.IsTuple l items) (hx : items[i]? = none)
    (hE : ∀ h' e, Heap.ExtBut it s.heap h' → (∃ o, h'.get? e = some o ∧ o.cls = .type "StopIteration") → E (.ref e) { s with heap := h' }) : wpAny (model prog w) A (Builtin.SmallTypes.nextOf (.ref it)) Q E s := by
  obtain ⟨ob, hob, hcl, hdt⟩ := id hit
  obtain ⟨ol, hol, _, nl, hdl⟩ := hl
  unfold Builtin.SmallTypes.nextOf
  refine wpAny_bind (wpAny_callSpecial?_slot (name := Str.ofString "__next__") hit.typeIs slot_tupleiter_next (wpAny_call_entry slot_tupleiter_next hit.typeIs entry_tupleiter_next ?_ (args_tupleiter_next _)))
  (show wpAny _ _ (field (.ref it) 0 >>= _) _ _ s); refine wpAny_bind (wpAny_field hob hdt (x := .ref l) rfl ?_)
  (show wpAny _ _ (if (Value.ref l == Value.none) = true then _ else _) _ _ s); rw [if_neg (show ¬ ((Value.ref l == Value.none) = true) from Bool.false_ne_true)]
  (show wpAny _ _ (field (.ref it) 1 >>= _) _ _ s); refine wpAny_bind (wpAny_field hob hdt (x := .int i 0) rfl ?_)
  (show wpAny _ _ (seqItems? (.ref l) >>= _) _ _ s); refine wpAny_bind (wpAny_seqItems hol hdl ?_)
  simp only [Int.toNat_natCast, hx]; refine wpAny_bind (wpAny_rule (wpAny_bind (wpAny_setField hob hdt (by simp) ?_)))
  (show wpAny _ _ (newExc (.type "StopIteration") [] >>= _) _ _ _); refine wpAny_bind ?_
  simp only [newExc, newTuple]; refine wpAny_bind (wpAny_newObj_type ?_ (by size_fits))
  refine wpAny_bind (m := firstArgMember _ _) (wpAny_of_eq (a := Value.none) (by first | rfl | (simp only [firstArgMember]; rfl)) (wpAny_newObj_type ?_ (by size_fits)))
  simp only [raiseNew]; refine wpAny_bind (wpAny_handled ?_)
  (first | rw [show A.in1.handled = none from hh] | rw [hh]); refine wpAny_bind (wpAny_pure (wpAny_throw ?_))
  exact hE _ _ (((Heap.SameBut.update _ ..).extBut.push _).push _) ⟨_, Heap.get?_push_size _ rfl, rfl⟩
end
section
open AutoSeq1 (wpAny_loadPart')
set_option maxRecDepth 100000
end
section
variable {prog : Program} {w : World} {A : Around} {E : Value → Shared → Prop} {s : Shared}
end
/-- the pairs of the tuple at a -/
def IteT (K : PySem.W.Frag) (a : Addr) : It :=
  ⟨fun i H => ∃ xs x, SqT K H a xs ∧ xs[i]? = some x, fun i H y H' => ∃ t x, y = .ref t ∧ H t = none ∧ H' = upd H t (.tup [.int i, x]) ∧ ∀ xs, SqT K H a xs → xs[i]? = some x, fun i H => ∃ xs, SqT K H a xs ∧ xs.length ≤ i⟩
section
variable {X : Cx}
def iEnumT (K : PySem.W.Frag) (ta : TA) : TI := fun σ H R => ta σ H fun vs H1 => ∃ a, vs = [.ref a] ∧ (∃ xs, SqT K H1 a xs) ∧ R (IteT K a) H1
theorem i_iEnumT {K : PySem.W.Frag} {ta : TA} {σ : St} {H : Hp} {R : It → Hp → Prop} (h : ta σ H fun vs H1 => ∃ a, vs = [.ref a] ∧ (∃ xs, SqT K H1 a xs) ∧ R (IteT K a) H1) : iEnumT K ta σ H R := h
end
end L2
namespace L2
open PySem PySem.Spec PyProof.Rows
/-! ### for over what a def tells from which errors may come: no error leaves the loop itself -/
section
variable {X : Cx} {tg : Expr}
end
end L2
namespace L2
/-! ### what the rules of dicts ask -/
section
variable {σ : St} {H : Hp} {Q : VK} {td ty tx tv : TE}
theorem i_dget (h : td σ H fun x H1 => ty σ H1 fun y H2 => ∃ a v, x = .ref a ∧ DGet H2 a y (some v) ∧ Q v H2) : tDGet td ty σ H Q := h
theorem i_dget1 (h : td σ H fun x H1 => ∃ a, x = .ref a ∧ IsD H1 a ∧ ty σ H1 fun y H2 => ∃ o, DGet H2 a y o ∧ Q (o.getD .non) H2) : tDGet1 td ty σ H Q := h
theorem i_dget2 (h : td σ H fun x H1 => ∃ a, x = .ref a ∧ IsD H1 a ∧ ty σ H1 fun y H2 => tx σ H2 fun z H3 => ∃ o, DGet H3 a y o ∧ Q (o.getD z) H3) : tDGet2 td ty tx σ H Q := h
theorem i_din (h : ty σ H fun y H1 => td σ H1 fun x H2 => ∃ a o, x = .ref a ∧ DGet H2 a y o ∧ Q (.bl o.isSome) H2) : tDIn ty td σ H Q := h
theorem i_dnotin (h : ty σ H fun y H1 => td σ H1 fun x H2 => ∃ a o, x = .ref a ∧ DGet H2 a y o ∧ Q (.bl (!o.isSome)) H2) : tDNotIn ty td σ H Q := h
theorem i_dput {nx bk ct : St → Hp → Prop} {rt : VK} (h : tv σ H fun v H1 => td σ H1 fun x H2 => ty σ H2 fun y H3 => ∃ a H4, x = .ref a ∧ DPut H3 a y v H4 ∧ nx σ H4) : sDPut td ty tv ⟨nx, rt, bk, ct⟩ σ H := h
theorem i_dnewT (h : ∀ p, H p = none → Q (.ref p) (upd H p (.dT []))) : tDNewT σ H Q := h
end
end L2
/-! zip of two lists, in a comprehension and in a loop -/
namespace L2
open PySem PySem.Spec PyProof.Rows
/-- the pairs of the lists at a and b -/
def Itz (K : PySem.W.Frag) (a b : Addr) : It :=
  ⟨fun i H => ∃ xs ys x y, SqL K H a xs ∧ SqL K H b ys ∧ xs[i]? = some x ∧ ys[i]? = some y,
   fun i H v H' => ∃ t x y, v = .ref t ∧ H t = none ∧ H' = upd H t (.tup [x, y]) ∧ (∀ xs, SqL K H a xs → xs[i]? = some x) ∧ (∀ ys, SqL K H b ys → ys[i]? = some y),
   fun i H => ∃ xs ys, SqL K H a xs ∧ SqL K H b ys ∧ (xs.length ≤ i ∨ ys.length ≤ i)⟩
structure Zap (z TI TO i1 i2 : Addr) : Prop where
  a1 : TI ≠ z
  a2 : TO ≠ z
  a3 : i1 ≠ z
  a4 : i2 ≠ z
  a5 : TI ≠ TO
  a6 : TI ≠ i1
  a7 : TI ≠ i2
  a8 : TO ≠ i1
  a9 : TO ≠ i2
  b1 : i1 ≠ i2
def Zst (z TI TO i1 i2 l1 l2 : Addr) (i : Nat) (h : Heap) : Prop := IsZip h z TI TO .none ∧ IsPair h TI (.ref i1) (.ref i2) ∧ (∃ a b, IsPair h TO a b) ∧ h.IsListIter i1 l1 i ∧ h.IsListIter i2 l2 i
theorem ne_cls {h : Heap} {a b : Addr} {o o' : Obj} (e : h.get? a = some o) (e' : h.get? b = some o') (n : o.cls ≠ o'.cls) : a ≠ b := by
  rintro rfl
  rw [e] at e'
  cases e'
  exact n rfl
theorem zap_of (z : Nat) : Zap (z + 4) (z + 2) (z + 3) z (z + 1) := by
  constructor <;> (show (_ : Nat) ≠ (_ : Nat); omega)
theorem nT {a b : String} (h : Value.type a ≠ Value.type b) : Value.type a ≠ Value.type b := h
theorem Zap.apart {X : Cx} {pins : List (Addr × Obj)} {σ : St} {H : Hp} {s : Shared} {z TI TO i1 i2 l1 l2 : Addr} {i : Nat} {xs ys : List Value} (d : Zap z TI TO i1 i2) (st : Zst z TI TO i1 i2 l1 l2 i s.heap) (p : PlainL s.heap l1 xs.toArray) (q : PlainL s.heap l2 ys.toArray) (_ : Inv X pins σ H s) : ZipApart z TI TO i1 i2 l1 l2 := by
  obtain ⟨hz, hTI, ⟨a, b, hTO⟩, ⟨o1, e1, c1, _⟩, ⟨o2, e2, c2, _⟩⟩ := st
  obtain ⟨ol, el, cl, _⟩ := p.isList
  obtain ⟨om, em, cm, _⟩ := q.isList
  exact ⟨d.a1, d.a2, d.a3, d.a4, d.a5, d.a6, d.a7, d.a8, d.a9, d.b1,
    ne_cls el hz (by rw [cl]; exact nT (by decide)), ne_cls el hTO (by rw [cl]; exact nT (by decide)), ne_cls el e1 (by rw [cl, c1]; decide), ne_cls el e2 (by rw [cl, c2]; decide),
    ne_cls em hz (by rw [cm]; exact nT (by decide)), ne_cls em hTO (by rw [cm]; exact nT (by decide)), ne_cls em e1 (by rw [cm, c1]; decide), ne_cls em e2 (by rw [cm, c2]; decide)⟩
theorem turn_zip {P : Program} {w : World} {K : PySem.W.Frag} {elts : List Expr} {x1} {tpos : Pos} (l1 l2 z TI TO i1 i2 : Addr) (d : Zap z TI TO i1 i2) :
    Turn P w K (.Tuple elts x1 tpos) (Itz K l1 l2) [z, TI, TO, i1, i2] z (Zst z TI TO i1 i2 l1 l2) where
  mem := by simp
  obj := fun i h st b hb => by
    obtain ⟨hz, hTI, ⟨_, _, hTO⟩, ⟨o1, e1, _, d1⟩, ⟨o2, e2, _, d2⟩⟩ := st
    simp only [List.mem_cons, List.not_mem_nil, or_false] at hb
    rcases hb with rfl | rfl | rfl | rfl | rfl
    · exact ⟨_, hz, fun v z => by cases z⟩
    · exact ⟨_, hTI, fun v z => by cases z⟩
    · exact ⟨_, hTO, fun v z => by cases z⟩
    · exact ⟨o1, e1, fun v z => by rw [d1] at z; cases z⟩
    · exact ⟨o2, e2, fun v z => by rw [d2] at z; cases z⟩
  keep := fun i h h' st k => by
    obtain ⟨hz, hTI, ⟨a, b, hTO⟩, h1, h2⟩ := st
    exact ⟨k z (by simp) _ hz, k TI (by simp) _ hTI, ⟨a, b, k TO (by simp) _ hTO⟩, h1.at fun o e => k i1 (by simp) o e, h2.at fun o e => k i2 (by simp) o e⟩
  item := by
    intro X hP hw hK hc i pins s σ H E I hf st hg
    subst hP hw hK
    obtain ⟨xs, ys, x, y, hq, hq', hx, hy⟩ := hg
    obtain ⟨its, rv, p, hz0⟩ := I.list hq
    obtain ⟨its', rv', p', hz0'⟩ := I.list hq'
    obtain ⟨u, hu, ru⟩ := rv.get hx
    obtain ⟨u', hu', ru'⟩ := rv'.get hy
    have D := d.apart st p p' I
    obtain ⟨hz, hTI, ⟨va, vb, hTO⟩, hi1, hi2⟩ := st
    refine wpAny_pyNext_zip_item D hz hTI hTO hi1 hi2 p.isList p'.isList (x := u) (y := u') (by simpa using hu) (by simpa using hu') fun h' a1 a2 a3 a4 a5 a6 hk => ?_
    refine ⟨_, rfl, wpAny_letOwnedTupleGo_zip a1 fun h'' hz'' hs'' => ?_⟩
    have hTn : H s.heap.objs.size = none := I.hok.fresh (Nat.le_refl _)
    have lz : z < s.heap.objs.size := Heap.lt_size hz
    have lo : TO < s.heap.objs.size := Heap.lt_size hTO
    have lI : TI < s.heap.objs.size := Heap.lt_size hTI
    have l1' : i1 < s.heap.objs.size := by obtain ⟨o, e, _⟩ := id hi1; exact Heap.lt_size e
    have l2' : i2 < s.heap.objs.size := by obtain ⟨o, e, _⟩ := id hi2; exact Heap.lt_size e
    have keep : ∀ b o, b ≠ z → b ≠ TO → b ≠ i1 → b ≠ i2 → s.heap.get? b = some o → h''.get? b = some o := fun b o n1 n2 n3 n4 e => (hs''.2 b n1).trans (hk b o n1 n2 n3 n4 e)
    have htup : h''.get? s.heap.objs.size = some { cls := .type "tuple", data := .seq #[u, u'] } := (hs''.2 _ (Nat.ne_of_gt lz)).trans a5
    have nt : ∀ {b v}, H b = some v → b ≠ z ∧ b ≠ TO ∧ b ≠ i1 ∧ b ≠ i2 := fun {b v} e => ⟨ne_of_none e (hf z (by simp)).1, ne_of_none e (hf TO (by simp)).1, ne_of_none e (hf i1 (by simp)).1, ne_of_none e (hf i2 (by simp)).1⟩
    have hok : HOk X.prog X.w (upd H s.heap.objs.size (.tup [x, y])) h'' := fun b o e => by
      by_cases hb : b = s.heap.objs.size
      · subst hb
        rw [upd_same] at e
        cases e
        exact ⟨by show 2 ≤ sizeLine; decide, [u, u'], .cons ru (.cons ru' .nil), ⟨_, htup, rfl, _, rfl⟩⟩
      · rw [upd_ne hb] at e
        refine (I.hok b o e).stay (fun c v hc' q => ?_) (fun c q => by rw [upd_ne (ne_of_none q hTn)]; exact q) fun c ys q => by rw [upd_ne (ne_of_none q hTn)]; exact q
        obtain ⟨n1, n2, n3, n4⟩ : c ≠ z ∧ c ≠ TO ∧ c ≠ i1 ∧ c ≠ i2 := by
          rcases hc' with rfl | hc'
          · exact nt e
          · exact nt hc'
        exact keep c v n1 n2 n3 n4 q
    have un : Un (frs X.stack) [z, TI, TO, i1, i2] H (upd H s.heap.objs.size (.tup [x, y])) s.heap h'' := by
      have kp : ∀ {b o}, b ∉ [z, TI, TO, i1, i2] → s.heap.get? b = some o → h''.get? b = some o := fun {b o} hb e => keep b o (fun q => hb (by simp [q])) (fun q => hb (by simp [q])) (fun q => hb (by simp [q])) (fun q => hb (by simp [q])) e
      refine ⟨fun b o e n _ hx => kp hx e, fun b o e n _ hx => ⟨o.slots, kp hx e⟩, fun b o e n _ => by rw [upd_ne (Nat.ne_of_lt (Heap.lt_size e))]; exact n, fun b o e hx => ⟨o, kp hx e⟩,
        fun b ys e => by rw [upd_ne (ne_of_none e hTn)]; exact e, fun b o v e => by rw [upd_ne (ne_of_none e hTn)]; exact e, fun b ps e => ⟨#[], by rw [upd_ne (ne_of_none e hTn), e]; simp⟩⟩
    have I1 : Inv X pins σ (upd H s.heap.objs.size (.tup [x, y])) { s with heap := h'' } := I.call' (s' := { s with heap := h'' }) rfl un hok I.bare fun b hb => by
      have f := hf b hb
      exact ⟨f.2.2.2.1, f.2.1, f.2.2.2.2.1, f.2.2.2.2.2⟩
    refine ⟨.ref s.heap.objs.size, _, I1, rfl, ⟨_, x, y, rfl, hTn, rfl, fun zs h => by rw [I.list_inj h hq]; exact hx, fun zs h => by rw [I.list_inj h hq']; exact hy⟩, ?_, fun b hb => ?_⟩
    · exact ⟨hz'', keep _ _ D.TIz D.TITO D.TIi1 D.TIi2 hTI, ⟨u, u', (hs''.2 _ D.TOz).trans a2⟩, a3.at fun o e => (hs''.2 _ D.i1z).trans e, a4.at fun o e => (hs''.2 _ D.i2z).trans e⟩
    · rw [upd_ne (fun q => ?_)]
      · exact (hf b hb).1
      · have hq : b < s.heap.objs.size := by
          simp only [List.mem_cons, List.not_mem_nil, or_false] at hb
          rcases hb with rfl | rfl | rfl | rfl | rfl <;> assumption
        exact absurd q (Nat.ne_of_lt hq)
  done := by
    intro X hP hw hK hc i pins s σ H E I hf st hg
    subst hP hw hK
    obtain ⟨xs, ys, hq, hq', hx⟩ := hg
    obtain ⟨its, rv, p, hz0⟩ := I.list hq
    obtain ⟨its', rv', p', hz0'⟩ := I.list hq'
    have D := d.apart st p p' I
    obtain ⟨hz, hTI, ⟨va, vb, hTO⟩, hi1, hi2⟩ := st
    have hl := rv.length
    have hl' := rv'.length
    refine wpAny_pyNext_zip_end (show X.A.handled = none from I.ok.hd hc) D hz hTI hTO hi1 hi2 p.isList p'.isList (by simp; omega) fun h' hk => ⟨rfl, ?_⟩
    have nt : ∀ {b v}, H b = some v → b ≠ z ∧ b ≠ TO ∧ b ≠ i1 ∧ b ≠ i2 := fun {b v} e => ⟨ne_of_none e (hf z (by simp)).1, ne_of_none e (hf TO (by simp)).1, ne_of_none e (hf i1 (by simp)).1, ne_of_none e (hf i2 (by simp)).1⟩
    have hok : HOk X.prog X.w H h' := fun b o e => by
      refine (I.hok b o e).stay (fun c v hc' q => ?_) (fun c q => q) fun c ys q => q
      obtain ⟨n1, n2, n3, n4⟩ : c ≠ z ∧ c ≠ TO ∧ c ≠ i1 ∧ c ≠ i2 := by
        rcases hc' with rfl | hc'
        · exact nt e
        · exact nt hc'
      exact hk c v n1 n2 n3 n4 q
    have un : Un (frs X.stack) [z, TI, TO, i1, i2] H H s.heap h' := by
      have kp : ∀ {b o}, b ∉ [z, TI, TO, i1, i2] → s.heap.get? b = some o → h'.get? b = some o := fun {b o} hb e => hk b o (fun q => hb (by simp [q])) (fun q => hb (by simp [q])) (fun q => hb (by simp [q])) (fun q => hb (by simp [q])) e
      exact ⟨fun b o e n _ hx => kp hx e, fun b o e n _ hx => ⟨o.slots, kp hx e⟩, fun b o e n _ => n, fun b o e hx => ⟨o, kp hx e⟩, fun b ys e => e, fun b o v e => e, fun b ps e => ⟨#[], by rw [e]; simp⟩⟩
    exact I.call' (s' := { s with heap := h' }) rfl un hok I.bare fun b hb => by
      have f := hf b hb
      exact ⟨f.2.2.2.1, f.2.1, f.2.2.2.2.1, f.2.2.2.2.2⟩
  self := fun _ _ _ _ _ st h => wpAny_pyIter_zip st.1 h
section
variable {X : Cx}
def iZip (K : PySem.W.Frag) (ta : TA) : TI := fun σ H R => ta σ H fun vs H1 => ∃ a b, vs = [.ref a, .ref b] ∧ (∃ xs ys, SqL K H1 a xs ∧ SqL K H1 b ys) ∧ R (Itz K a b) H1
theorem pi_zip {elts : List Expr} {x1} {tpos : Pos} {l m : Expr} {ta : TA} {p pos : Pos} (hg : Gl X "zip") (hm : X.mg "zip" = none) (ha : PA X [l, m] ta) (hs : starEach [l, m] X.env = [(false, eval l X.env), (false, eval m X.env)] := by rfl) (hs2 : starEach [m] X.env = [(false, eval m X.env)] := by rfl) :
    PI X (.Tuple elts x1 tpos) (.Call (.Name "zip" p) [l, m] [] pos) (iZip X.K ta) := by
  intro pins s σ H R I h
  refine Call_ (ld_blt I hg hm (show bootBuiltins "zip" = some (.type "zip") by decide +kernel) (PyProof.Rows.callWith_type1 (thn (ha pos pins s σ H _ I h) fun us s1 ⟨vs, H1, I1, r1, q1⟩ => ?_) (by rw [hs, hs2]) (by rw [hs2]; rfl)))
  obtain ⟨a, b, e, ⟨xs, ys, hq, hq'⟩, q⟩ := q1
  subst e
  cases r1 with
  | cons r rr =>
    cases rr with
    | cons r' rr =>
      cases rr
      cases r
      cases r'
      obtain ⟨its, rv, pl, hz⟩ := I1.list hq
      obtain ⟨its', rv', pl', hz'⟩ := I1.list hq'
      refine call_zip_2 pl.isList pl'.isList fun h' hz hTI hTO h1 h2 hsz hk => ?_
      refine wpAny_pyIter_zip hz ?_
      have zap : Zap (s1.heap.objs.size + 4) (s1.heap.objs.size + 2) (s1.heap.objs.size + 3) s1.heap.objs.size (s1.heap.objs.size + 1) := zap_of _
      refine ⟨s1.heap.objs.size + 4, [s1.heap.objs.size + 4, s1.heap.objs.size + 2, s1.heap.objs.size + 3, s1.heap.objs.size, s1.heap.objs.size + 1], _, _, H1, rfl, I1.kept (t' := s1.toks) hk, turn_zip a b _ _ _ _ _ zap, ⟨hz, hTI, ⟨_, _, hTO⟩, h1, h2⟩, fun b hb => ?_, q⟩
      have hb : s1.heap.objs.size ≤ b := by
        simp only [List.mem_cons, List.not_mem_nil, or_false] at hb
        rcases hb with rfl | rfl | rfl | rfl | rfl <;> omega
      exact I1.fpOk hb (I1.hok.fresh hb)
theorem i_iZip {K : PySem.W.Frag} {ta : TA} {σ : St} {H : Hp} {R : It → Hp → Prop} (h : ta σ H fun vs H1 => ∃ a b, vs = [.ref a, .ref b] ∧ (∃ xs ys, SqL K H1 a xs ∧ SqL K H1 b ys) ∧ R (Itz K a b) H1) : iZip K ta σ H R := h
end
/-- a comprehension over the pairs of two lists of one length, each item of its own -/
theorem compT_zipM {K : PySem.W.Frag} {a b D : Addr} {xs ys : List V} {g : TG} {te : TE} {n : Nat} {fr : St} {R : Hp → Prop} {H1 : Hp} (f : Nat → V) (hq : SqL K H1 a xs) (hq' : SqL K H1 b ys) (hl : ys.length = xs.length) (hD : H1 D = none)
    (hs : ∀ i x y H t pre, xs[i]? = some x → ys[i]? = some y → Same H1 H → H D = some (.lst ((List.range i).map f)) → H t = none → List.length pre = n → g (.ref t) (pre ++ fr) (upd H t (.tup [x, y])) fun σ' H' => (∃ pre', List.length pre' = n ∧ σ' = pre' ++ fr) ∧ te σ' H' (MpK H1 D f xs.length i))
    (hd : ∀ H, Same H1 H → H D = some (.lst ((List.range xs.length).map f)) → R H) : tCompBT (Itz K a b) g te n fr D R H1 := by
  refine ⟨cW xs.length (Mp H1 D f), ⟨xs.length, by simp, Nat.zero_le _, Mp.zero hD⟩, ?_⟩
  rintro i m H ⟨rfl, hi, p⟩
  have q := p.1.seq hq
  have q' := p.1.seq hq'
  by_cases hlt : i < xs.length
  · refine .inr ⟨⟨xs, ys, xs[i], ys[i]'(by omega), q, q', by simp [hlt], by simp [hl, hlt]⟩, fun y H' pre yl hp => ?_⟩
    obtain ⟨t, x, y, rfl, ht, rfl, hx, hy⟩ := yl
    exact hs i x y H t pre (hx xs q) (hy ys q') p.1 p.2 ht hp
  · have e : i = xs.length := by omega
    subst e
    exact .inl ⟨⟨xs, ys, q, q', .inl (Nat.le_refl _)⟩, hd H p.1 p.2⟩
/-! ### name = a comprehension with a target of several names -/
section
variable {X : Cx} {iter elt tg : Expr} {xs : List Str} {g : TG} {pos : Pos} {scope : Scope} {te : TE} {wi : TI} {ys : List Str} {js : List Nat}
theorem ps_compT {i : Nat} {y : Str} {py spos : Pos} (hN : X.N.Nodup) (hy : X.N[i]? = some y) (hl : X.env.scope.names.lookup y = some .local) (hc : X.calm = true) (hi : PI X tg iter wi)
    (he : ∀ (C : Addr) (s2 : Shared) (H2 : Hp) (fp : List Addr), PE (X.compT scope ys C xs s2 H2 fp) elt te) (hjs : js.map (fun j => X.N[j]?) = ys.map some)
    (hgt : ∀ (C : Addr) (s2 : Shared) (H2 : Hp) (fp : List Addr), PG (X.compT scope ys C xs s2 H2 fp) tg g)
    (hclos : closureFor scope X.env = pure (clOf ys X.env)) (hyc : ∀ y ∈ ys, X.env.kindOf y = some .cell) (hrel : ∀ y ∈ ys, (relabel scope X.env).names.lookup y = some .cell)
    (hsw : swapsWith (.ListComp elt [⟨tg, iter, [], 0⟩] scope pos) (some (.Name y py)) spos.line X.env = pure true := by rfl)
    (hfr : ∀ y ∈ scope.names, y.2 = .free → y.1 ∈ ys := by decide +kernel) (hcell : ∀ y ∈ scope.names, y.2 ≠ .cell := by decide +kernel) (hkind : scope.kind = .function := by rfl)
    (hnames : ∀ y ∈ scope.names, y.2 = .local → scope.names.lookup y.1 = some .local := by decide +kernel) (hs : ∀ x, foldedSetIterable iter X.env x = pure x := by intro _; rfl) :
    PS X (.Assign [.Name y py] (.ListComp elt [⟨tg, iter, [], 0⟩] scope pos) spos) (tAsg (tCompT wi g te xs.length js) (gName i)) := by
  refine .mk fun pins s σ H D0 I h => ?_
  rw [exec_Assign_Name_used _ _ _ _ hsw]
  refine wpAny_bind (wpAny_standAt (wpAny_bind ?_))
  show wpAny _ X.A (do let _ ← comprehension (.ListComp elt [⟨tg, iter, [], 0⟩] scope pos) scope X.env _ (newList []) false (eval iter X.env) (some (assign (.Name y py) X.env))) _ _ s
  refine wpAny_bind (wpAny_mono (wpAny_comprehension_free (use := some (assign (.Name y py) X.env)) (Q := fun _ s' => SP X pins D0 .next s') rfl hs hclos hkind hnames (thn (hi pins s σ H _ I h) fun v s1 h1 => thn h1 fun itv s2 h2 => ?_)) (fun _ s' hq => wpAny_pure (wpAny_pure hq)) fun _ _ e => e)
  obtain ⟨it, fp, tn, J, H2, e, I2, T, st2, f2, h⟩ := h2
  subst e
  refine comp_coreT (R := fun D H' => gName i (.ref D) σ H' D0.nx) (RR := compPost (model X.prog X.w) X.A X.xe (some (assign (.Name y py) X.env)) (fun _ s' => SP X pins D0 .next s')) hc he hgt hcell hkind hfr hyc hrel hjs I2 T st2 f2 h ?_
  intro D C H' s' m f hn I' q
  refine wpAny_assign_Name (store_ok2 (v := V.ref D) I' hN hy (Or.inl hl) rfl (fun s'' I'' k'' => ?_) (Or.inr hl))
  refine ⟨m, ?_, fun h' sb => ⟨_, H', ?_, q⟩⟩
  · obtain ⟨b, sb, hb⟩ := k''
    refine hn.sameBut sb fun z => ?_
    rcases hb with hb | hb
    · exact f.2.1 (z.trans hb)
    · exact f.2.2.2.2.1 y b hb z.symm
  · exact I''.turned (t' := s''.toks) (fun b o hb e => sb.extBut b o hb e) f.1 f.2.1 f.2.2.2.1 f.2.2.2.2.1 f.2.2.2.2.2
end
/-! ### << of two written numbers -/
section
variable {X : Cx}
def rShlC (k : Int) : R2 := fun x y H Q => ∃ i j, x = .int i ∧ y = .int j ∧ CPow i j ∧ i * 2 ^ j.toNat = k ∧ Q (.int k) H
theorem op_shlC (k : Int) : OpR X (binaryOp .LShift) (rShlC k) := by
  intro pins s σ H x y v u Q I rx ry h
  obtain ⟨i, j, rfl, rfl, hc, e, q⟩ := h
  exact op_shl pins s σ H (.int i) (.int j) v u Q I rx ry ⟨i, j, rfl, rfl, hc, by show Q (.int (i * 2 ^ j.toNat)) H; rw [e]; exact q⟩
theorem i_shlC {i j k : Int} {H : Hp} {Q : VK} (hc : CPow i j) (e : i * 2 ^ j.toNat = k) (h : Q (.int k) H) : rShlC k (.int i) (.int j) H Q := ⟨i, j, rfl, rfl, hc, e, h⟩
def rSum (K : PySem.W.Frag) : List V → Hp → VK → Prop := fun vs H Q => ∃ p ns, vs = [.ref p] ∧ SqL K H p (List.map V.int ns) ∧ Q (.int ns.sum) H
/-- ints under a comprehension -/
def onI (f : Int → Int) : V → V
  | .int i => .int (f i)
  | v => v
theorem onI_map (f : Int → Int) (ns : List Int) : (ns.map V.int).map (onI f) = (ns.map f).map V.int := by
  rw [List.map_map, List.map_map]
  rfl
theorem two_of {pre : List (Option V)} (h : List.length pre = 2) : ∃ v1 v2, pre = [v1, v2] := by
  match pre, h with
  | [v1, v2], _ => exact ⟨v1, v2, rfl⟩
end
theorem i_gSub {to ti : TE} {t : TSet} {v : V} {σ : St} {H : Hp} {Q : St → Hp → Prop} (h : to σ H fun o H1 => ti σ H1 fun i H2 => t o i v H2 fun H3 => Q σ H3) : gSub to ti t v σ H Q := h
/-! ### bit_length of an int -/
section
variable {X : Cx}
def rBits : V → List V → Hp → VK → Prop := fun x vs H Q => ∃ i : Int, x = .int i ∧ vs = [] ∧ Q (.int (Builtin.Int.intBits i : Nat)) H
theorem mt_bits : MtR X "int.bit_length" rBits := by
  intro pins s σ H x vs v us Q I rx rv h
  obtain ⟨i, rfl, rfl, q⟩ := h
  obtain ⟨t, rfl⟩ := rx
  have hus := rv.zero
  subst hus
  exact PyProof.Rows.call_int_bit_length ⟨.int _, H, I.tok _, ⟨_, rfl⟩, q⟩
theorem i_bits {K : PySem.W.Frag} {i : Int} {H : Hp} {Q : VK} (h : Q (.int (Builtin.Int.intBits i : Nat)) H) : tyV K "int" (.int i) H ∧ rBits (.int i) [] H Q := ⟨rfl, i, rfl, rfl, h⟩
end
end L2
/-! zip of two tuples, in a comprehension -/
namespace L2
open PySem PySem.Spec PyProof.Rows
section
variable {prog : Program} {w : World} {A : Around} {E : Value → Shared → Prop} {s : Shared}
theorem zipItemT {z TI TO i1 i2 l1 l2 : Addr} {k1 k2 : Nat} {xs ys : Array Value} {x y a b : Value} {Q : Value → Shared → Prop} (D : ZipApart z TI TO i1 i2 l1 l2) (hz : IsZip s.heap z TI TO .none) (hTI : IsPair s.heap TI (.ref i1) (.ref i2)) (hTO : IsPair s.heap TO a b)
    (h1 : s.heap.IsTupleIter i1 l1 k1) (h2 : s.heap.IsTupleIter i2 l2 k2) (hl1 : s.heap.IsTuple l1 xs) (hl2 : s.heap.IsTuple l2 ys) (hx : xs[k1]? = some x) (hy : ys[k2]? = some y)
    (hQ : ∀ h', IsZip h' z TI TO (rawInt s.heap.objs.size) → IsPair h' TO x y → h'.IsTupleIter i1 l1 (k1 + 1) → h'.IsTupleIter i2 l2 (k2 + 1) → IsPair h' s.heap.objs.size x y → h'.objs.size = s.heap.objs.size + 1 → (∀ c o, c ≠ z → c ≠ TO → c ≠ i1 → c ≠ i2 → s.heap.get? c = some o → h'.get? c = some o) → Q (.ref s.heap.objs.size) { s with heap := h' }) :
    wpAny (model prog w) A (Builtin.«zip.__next__» ⟨[.ref z], []⟩) (fun fin s' => ∃ v, fin = .done (.ret v) ∧ Q v s') E s := by
  (show wpAny _ _ (field (.ref z) 2 >>= _) _ _ _); refine wpAny_bind (wpAny_field hz rfl (x := .bool false) rfl ?_)
  (show wpAny _ _ (field (.ref z) 3 >>= _) _ _ _); refine wpAny_bind (wpAny_field hz rfl (x := .ref TI) rfl ?_); refine wpAny_bind (wpAny_seqItems hTI rfl ?_)
  (show wpAny _ _ (Builtin.SmallTypes.ownedTupleIsFree (.ref z) >>= _) _ _ _); refine wpAny_bind ?_; unfold Builtin.SmallTypes.ownedTupleIsFree
  refine wpAny_bind (wpAny_field hz rfl (x := .none) rfl (wpAny_pure ?_)); simp only [if_true]; refine wpAny_bind (wpAny_rule ?_)
  refine wpAny_bind (wpAny_field hz rfl (x := .ref TO) rfl ?_); refine wpAny_bind (wpAny_setField_rec hz (by simp) fun h₁ hz₁ hs₁ => ?_)
  replace hz₁ : IsZip h₁ z TI TO .ellipsis := hz₁; refine wpAny_bind ?_; simp only [List.zipIdx_cons, List.zipIdx_nil, List.forIn_cons, List.forIn_nil]
  refine wpAny_bind (wpAny_bind (wpAny_onRaise ?_)); (show wpAny _ _ (Builtin.SmallTypes.nextOf (.ref i1) >>= _) _ _ _)
  refine wpAny_bind (nextOf_tupI (h1.at fun o e => hs₁.extBut _ _ D.i1z e) (hl1.extBut hs₁.extBut D.l1z) hx fun h₂ h1₂ hs₂ => wpAny_pure ?_)
  have hTO₂ : IsPair h₂ TO a b := hs₂.extBut _ _ D.TOi1 (hs₁.extBut _ _ D.TOz hTO); refine wpAny_bind (wpAny_seqItems hTO₂ rfl ?_)
  refine wpAny_bind (wpAny_updateSeq_pair hTO₂ fun h₃ hTO₃ hs₃ => ?_); replace hTO₃ : IsPair h₃ TO x b := hTO₃; refine wpAny_bind (wpAny_letGo (wpAny_pure ?_))
  refine wpAny_bind (wpAny_bind (wpAny_onRaise ?_)); (show wpAny _ _ (Builtin.SmallTypes.nextOf (.ref i2) >>= _) _ _ _)
  refine wpAny_bind (nextOf_tupI (h2.at fun o e => hs₃.extBut _ _ D.TOi2.symm (hs₂.extBut _ _ D.i12.symm (hs₁.extBut _ _ D.i2z e))) (((hl2.extBut hs₁.extBut D.l2z).extBut hs₂.extBut D.l2i1).extBut hs₃.extBut D.l2TO) hy fun h₄ h2₄ hs₄ => wpAny_pure ?_)
  have hTO₄ : IsPair h₄ TO x b := hs₄.extBut _ _ D.TOi2 hTO₃; refine wpAny_bind (wpAny_seqItems hTO₄ rfl ?_)
  refine wpAny_bind (wpAny_updateSeq_pair hTO₄ fun h₅ hTO₅ hs₅ => ?_); replace hTO₅ : IsPair h₅ TO x y := hTO₅; refine wpAny_bind (wpAny_letGo (wpAny_pure (wpAny_pure ?_)))
  refine wpAny_bind (wpAny_seqItems hTO₅ rfl ?_); refine wpAny_bind (wpAny_newTuple ?_)
  have hsz : h₅.objs.size = s.heap.objs.size := by (rw [hs₅.1, hs₄.1, hs₃.1, hs₂.1, hs₁.1])
  have hz₅ : IsZip h₅ z TI TO .ellipsis := (hs₅.extBut _ _ D.TOz.symm (hs₄.extBut _ _ D.i2z.symm (hs₃.extBut _ _ D.TOz.symm (hs₂.extBut _ _ D.i1z.symm hz₁))))
  have hk₅ : ∀ c o, c ≠ z → c ≠ TO → c ≠ i1 → c ≠ i2 → s.heap.get? c = some o → h₅.get? c = some o := fun c o c1 c2 c3 c4 e => hs₅.extBut _ _ c2 (hs₄.extBut _ _ c4 (hs₃.extBut _ _ c2 (hs₂.extBut _ _ c3 (hs₁.extBut _ _ c1 e))))
  have h1₅ : h₅.IsTupleIter i1 l1 (k1 + 1) := h1₂.at fun o e => hs₅.extBut _ _ D.TOi1.symm (hs₄.extBut _ _ D.i12 (hs₃.extBut _ _ D.TOi1.symm e))
  have h2₅ : h₅.IsTupleIter i2 l2 (k2 + 1) := h2₄.at fun o e => hs₅.extBut _ _ D.TOi2.symm e
  have hzlt : z < h₅.objs.size := (Heap.lt_size hz₅)
  (show wpAny _ _ (Builtin.SmallTypes.ownedTupleHandOut (.ref z) (.ref h₅.objs.size) >>= _) _ _ _); refine wpAny_bind ?_; unfold Builtin.SmallTypes.ownedTupleHandOut
  have hz₆ : IsZip (h₅.push { cls := .type "tuple", data := .seq #[x, y] }) z TI TO .ellipsis := (Heap.get?_push_of_some _ hz₅)
  refine wpAny_bind (wpAny_setField_rec hz₆ (by simp) fun h₇ hz₇ hs₇ => ?_); replace hz₇ : IsZip h₇ z TI TO (rawInt h₅.objs.size) := hz₇
  refine wpAny_setField_rec hz₇ (by simp) fun h₈ hz₈ hs₈ => ?_; replace hz₈ : IsZip h₈ z TI TO (rawInt h₅.objs.size) := hz₈
  have up : ∀ c o, c ≠ z → h₅.get? c = some o → h₈.get? c = some o := (fun c o c1 e => hs₈.extBut _ _ c1 (hs₇.extBut _ _ c1 (Heap.get?_push_of_some _ e)))
  have hT₈ : IsPair h₈ h₅.objs.size x y := (hs₈.extBut _ _ (Nat.ne_of_gt hzlt) (hs₇.extBut _ _ (Nat.ne_of_gt hzlt) (Heap.get?_push_size _ rfl)))
  have hz8 : h₈.objs.size = h₅.objs.size + 1 := by (rw [hs₈.1, hs₇.1, Heap.size_push])
  (rw [hsz] at hz₈ hT₈ hz8); refine wpAny_pure ⟨_, rfl, ?_⟩; show Q (.ref h₅.objs.size) _; rw [hsz]
  exact hQ h₈ hz₈ (up _ _ D.TOz hTO₅) (h1₅.at fun o e => up _ o D.i1z e) (h2₅.at fun o e => up _ o D.i2z e) hT₈ hz8 (fun c o c1 c2 c3 c4 e => up c o c1 (hk₅ c o c1 c2 c3 c4 e))
theorem zipEndT {z TI TO i1 i2 l1 l2 : Addr} {k1 k2 : Nat} {xs ys : Array Value} {a b : Value} {Q : Fin → Shared → Prop} (hh : A.handled = none) (D : ZipApart z TI TO i1 i2 l1 l2) (hz : IsZip s.heap z TI TO .none) (hTI : IsPair s.heap TI (.ref i1) (.ref i2)) (hTO : IsPair s.heap TO a b)
    (h1 : s.heap.IsTupleIter i1 l1 k1) (h2 : s.heap.IsTupleIter i2 l2 k2) (hl1 : s.heap.IsTuple l1 xs) (hl2 : s.heap.IsTuple l2 ys) (hend : xs[k1]? = none ∨ ys[k2]? = none)
    (hE : ∀ h' e, (∀ c o, c ≠ z → c ≠ TO → c ≠ i1 → c ≠ i2 → s.heap.get? c = some o → h'.get? c = some o) → (∃ o, h'.get? e = some o ∧ o.cls = .type "StopIteration") → E (.ref e) { s with heap := h' }) : wpAny (model prog w) A (Builtin.«zip.__next__» ⟨[.ref z], []⟩) Q E s := by
  (show wpAny _ _ (field (.ref z) 2 >>= _) _ _ _); refine wpAny_bind (wpAny_field hz rfl (x := .bool false) rfl ?_)
  (show wpAny _ _ (field (.ref z) 3 >>= _) _ _ _); refine wpAny_bind (wpAny_field hz rfl (x := .ref TI) rfl ?_); refine wpAny_bind (wpAny_seqItems hTI rfl ?_)
  (show wpAny _ _ (Builtin.SmallTypes.ownedTupleIsFree (.ref z) >>= _) _ _ _); refine wpAny_bind ?_; unfold Builtin.SmallTypes.ownedTupleIsFree
  refine wpAny_bind (wpAny_field hz rfl (x := .none) rfl (wpAny_pure ?_)); simp only [if_true]; refine wpAny_bind (wpAny_rule ?_)
  refine wpAny_bind (wpAny_field hz rfl (x := .ref TO) rfl ?_); refine wpAny_bind (wpAny_setField_rec hz (by simp) fun h₁ hz₁ hs₁ => ?_)
  replace hz₁ : IsZip h₁ z TI TO .ellipsis := hz₁; refine wpAny_bind ?_; simp only [List.zipIdx_cons, List.zipIdx_nil, List.forIn_cons, List.forIn_nil]
  refine wpAny_bind (wpAny_bind (wpAny_onRaise ?_)); (show wpAny _ _ (Builtin.SmallTypes.nextOf (.ref i1) >>= _) _ _ _)
  cases hx : xs[k1]? with
  | none =>
    refine wpAny_bind (nextOf_tupE hh (h1.at fun o e => hs₁.extBut _ _ D.i1z e) (hl1.extBut hs₁.extBut D.l1z) hx fun h₂ e hs₂ he => ?_)
    obtain ⟨oe, hoe, hce⟩ := he; have hz₂ : IsZip h₂ z TI TO .ellipsis := hs₂ _ _ D.i1z.symm hz₁
    have hez : e ≠ z := (fun x => by (subst x; rw [hz₂] at hoe; cases hoe; simp at hce))
    exact wpAny_setField_rec hz₂ (by simp) fun h₃ _ hs₃ => hE h₃ e (fun c o c1 _ c3 _ x => hs₃.extBut _ _ c1 (hs₂ _ _ c3 (hs₁.extBut _ _ c1 x))) ⟨oe, hs₃.extBut _ _ hez hoe, hce⟩
  | some x =>
    have hy : ys[k2]? = none := by (rcases hend with h | h; (rw [hx] at h; cases h); exact h)
    refine wpAny_bind (nextOf_tupI (h1.at fun o e => hs₁.extBut _ _ D.i1z e) (hl1.extBut hs₁.extBut D.l1z) hx fun h₂ h1₂ hs₂ => wpAny_pure ?_)
    have hTO₂ : IsPair h₂ TO a b := (hs₂.extBut _ _ D.TOi1 (hs₁.extBut _ _ D.TOz hTO)); refine wpAny_bind (wpAny_seqItems hTO₂ rfl ?_)
    refine wpAny_bind (wpAny_updateSeq_pair hTO₂ fun h₃ hTO₃ hs₃ => ?_); refine wpAny_bind (wpAny_letGo (wpAny_pure ?_))
    refine wpAny_bind (wpAny_bind (wpAny_onRaise ?_)); (show wpAny _ _ (Builtin.SmallTypes.nextOf (.ref i2) >>= _) _ _ _)
    refine wpAny_bind (nextOf_tupE hh (h2.at fun o e => hs₃.extBut _ _ D.TOi2.symm (hs₂.extBut _ _ D.i12.symm (hs₁.extBut _ _ D.i2z e))) (((hl2.extBut hs₁.extBut D.l2z).extBut hs₂.extBut D.l2i1).extBut hs₃.extBut D.l2TO) hy fun h₄ e hs₄ he => ?_)
    obtain ⟨oe, hoe, hce⟩ := he; have hz₄ : IsZip h₄ z TI TO .ellipsis := hs₄ _ _ D.i2z.symm (hs₃.extBut _ _ D.TOz.symm (hs₂.extBut _ _ D.i1z.symm hz₁))
    have hez : e ≠ z := (fun x => by (subst x; rw [hz₄] at hoe; cases hoe; simp at hce))
    exact wpAny_setField_rec hz₄ (by simp) fun h₅ _ hs₅ => hE h₅ e (fun c o c1 c2 c3 c4 x => hs₅.extBut _ _ c1 (hs₄ _ _ c4 (hs₃.extBut _ _ c2 (hs₂.extBut _ _ c3 (hs₁.extBut _ _ c1 x))))) ⟨oe, hs₅.extBut _ _ hez hoe, hce⟩
theorem nextZipT {z TI TO i1 i2 l1 l2 : Addr} {k1 k2 : Nat} {xs ys : Array Value} {x y a b : Value} {Q : Option Value → Shared → Prop} (D : ZipApart z TI TO i1 i2 l1 l2) (hz : IsZip s.heap z TI TO .none) (hTI : IsPair s.heap TI (.ref i1) (.ref i2)) (hTO : IsPair s.heap TO a b)
    (h1 : s.heap.IsTupleIter i1 l1 k1) (h2 : s.heap.IsTupleIter i2 l2 k2) (hl1 : s.heap.IsTuple l1 xs) (hl2 : s.heap.IsTuple l2 ys) (hx : xs[k1]? = some x) (hy : ys[k2]? = some y)
    (hQ : ∀ h', IsZip h' z TI TO (rawInt s.heap.objs.size) → IsPair h' TO x y → h'.IsTupleIter i1 l1 (k1 + 1) → h'.IsTupleIter i2 l2 (k2 + 1) → IsPair h' s.heap.objs.size x y → h'.objs.size = s.heap.objs.size + 1 → (∀ c o, c ≠ z → c ≠ TO → c ≠ i1 → c ≠ i2 → s.heap.get? c = some o → h'.get? c = some o) → Q (some (.ref s.heap.objs.size)) { s with heap := h' }) :
    wpAny (model prog w) A (pyNext (.ref z)) Q E s := by
  have hT : s.TypeIs (.ref z) "zip" := (⟨_, hz, rfl⟩); unfold pyNext
  exact wpAny_bind (wpAny_attempt (wpAny_callSpecial?_slot (name := Str.ofString "__next__") hT F.slot_zip_next (wpAny_call_entry F.slot_zip_next hT F.entry_zip_next
      (zipItemT D hz hTI hTO h1 h2 hl1 hl2 hx hy fun h' a1 a2 a3 a4 a5 a6 a7 => wpAny_pure (hQ h' a1 a2 a3 a4 a5 a6 a7)) (F.args_zip_next_1 _))))
theorem stopZipT {z TI TO i1 i2 l1 l2 : Addr} {k1 k2 : Nat} {xs ys : Array Value} {a b : Value} {Q : Option Value → Shared → Prop} (hh : A.handled = none) (D : ZipApart z TI TO i1 i2 l1 l2) (hz : IsZip s.heap z TI TO .none) (hTI : IsPair s.heap TI (.ref i1) (.ref i2)) (hTO : IsPair s.heap TO a b)
    (h1 : s.heap.IsTupleIter i1 l1 k1) (h2 : s.heap.IsTupleIter i2 l2 k2) (hl1 : s.heap.IsTuple l1 xs) (hl2 : s.heap.IsTuple l2 ys) (hend : xs[k1]? = none ∨ ys[k2]? = none)
    (hQ : ∀ h', (∀ c o, c ≠ z → c ≠ TO → c ≠ i1 → c ≠ i2 → s.heap.get? c = some o → h'.get? c = some o) → Q none { s with heap := h' }) : wpAny (model prog w) A (pyNext (.ref z)) Q E s := by
  have hT : s.TypeIs (.ref z) "zip" := (⟨_, hz, rfl⟩); unfold pyNext
  refine wpAny_bind (wpAny_attempt (wpAny_callSpecial?_slot (name := Str.ofString "__next__") hT F.slot_zip_next (wpAny_call_entry F.slot_zip_next hT F.entry_zip_next
    (zipEndT hh D hz hTI hTO h1 h2 hl1 hl2 hend fun h' e hk he => ?_) (F.args_zip_next_1 _))))
  obtain ⟨o, ho, hc⟩ := he; refine wpAny_bind (wpAny_isInstance (T := "StopIteration") (b := true) ⟨o, ho, hc⟩ isSubtype_stop ?_)
  exact wpAny_pure (hQ _ hk)
end
abbrev zT1 (h : Heap) (l1 : Addr) : Heap := h.push { cls := .type "tuple_iterator", data := .fields #[.ref l1, .int 0 0] }
abbrev zT2 (h : Heap) (l1 l2 : Addr) : Heap := (zT1 h l1).push { cls := .type "tuple_iterator", data := .fields #[.ref l2, .int 0 0] }
abbrev zT3 (h : Heap) (l1 l2 : Addr) : Heap := (zT2 h l1 l2).push { cls := .type "tuple", data := .seq #[.ref h.objs.size, .ref (zT1 h l1).objs.size] }
abbrev zT4 (h : Heap) (l1 l2 : Addr) : Heap := (zT3 h l1 l2).push { cls := .type "tuple", data := .seq #[.none, .none] }
abbrev zT5 (h : Heap) (l1 l2 : Addr) : Heap := (zT4 h l1 l2).push { cls := .type "zip", data := .fields #[.none, .bool false, .bool false, .ref (zT2 h l1 l2).objs.size, .ref (zT3 h l1 l2).objs.size] }
theorem zipNewT (l1 l2 : Addr) (xs ys : Array Value) : Meets (Builtin.«zip.__new__» ⟨[.type "zip", .ref l1, .ref l2], []⟩) (fun _ R s => s.heap.IsTuple l1 xs ∧ s.heap.IsTuple l2 ys ∧ R (.ok (.ret (.ref (zT4 s.heap l1 l2).objs.size))) { s with heap := zT5 s.heap l1 l2 }) :=
  .of_wp fun prog w A R s h => by
    obtain ⟨hp, g, d, tk, os⟩ := s
    obtain ⟨hl1, hl2, h⟩ := h
    have hsub := sub_zip
    have hT1 : Heap.IsTuple (Shared.heap ⟨hp, g, d, tk, os⟩) l1 xs := hl1
    have hT2 : Heap.IsTuple (Shared.heap ⟨hp.push { cls := .type "tuple_iterator", data := .fields #[.ref l1, .int 0 0] }, g, d, tk, os⟩) l2 ys := Heap.IsTuple.push hl2 _
    wp_walk using wpAny_pyIter_tuple hT1, wpAny_pyIter_tuple hT2
    exact ⟨_, rfl, h⟩
section
variable {prog : Program} {w : World} {A : Around} {E : Value → Shared → Prop} {s : Shared}
theorem callZipT {l1 l2 : Addr} {xs ys : Array Value} {Q : Value → Shared → Prop} (hl1 : s.heap.IsTuple l1 xs) (hl2 : s.heap.IsTuple l2 ys)
    (h : ∀ h', IsZip h' (s.heap.objs.size + 4) (s.heap.objs.size + 2) (s.heap.objs.size + 3) .none → IsPair h' (s.heap.objs.size + 2) (.ref s.heap.objs.size) (.ref (s.heap.objs.size + 1)) → IsPair h' (s.heap.objs.size + 3) .none .none → h'.IsTupleIter s.heap.objs.size l1 0 → h'.IsTupleIter (s.heap.objs.size + 1) l2 0 →
      (∀ c o, s.heap.get? c = some o → h'.get? c = some o) → Q (.ref (s.heap.objs.size + 4)) { s with heap := h' }) : wpAny (model prog w) A (call (.type "zip") [.ref l1, .ref l2]) Q E s := by
  refine callType_new F.called_zip (by decide) (F.typeCall_zip_2 _ _) (F.newCall_zip_2 _ _) (fun obj => F.args_object_init_3 obj _ _) F.entry_zip_new (zipNewT l1 l2 xs ys) ⟨hl1, hl2, ?_⟩
  have z1 : (zT1 s.heap l1).objs.size = s.heap.objs.size + 1 := Heap.size_push ..
  have z2 : (zT2 s.heap l1 l2).objs.size = s.heap.objs.size + 2 := by rw [Heap.size_push, z1]
  have z3 : (zT3 s.heap l1 l2).objs.size = s.heap.objs.size + 3 := by rw [Heap.size_push, z2]
  have z4 : (zT4 s.heap l1 l2).objs.size = s.heap.objs.size + 4 := by rw [Heap.size_push, z3]
  have g5 : (zT5 s.heap l1 l2).get? (zT4 s.heap l1 l2).objs.size = some _ := Heap.get?_push_size _ rfl
  have g4 : (zT5 s.heap l1 l2).get? (zT3 s.heap l1 l2).objs.size = some _ := Heap.get?_push_of_some _ (Heap.get?_push_size _ rfl)
  have g3 : (zT5 s.heap l1 l2).get? (zT2 s.heap l1 l2).objs.size = some _ := Heap.get?_push_of_some _ (Heap.get?_push_of_some _ (Heap.get?_push_size _ rfl))
  have g2 : (zT5 s.heap l1 l2).get? (zT1 s.heap l1).objs.size = some _ := Heap.get?_push_of_some _ (Heap.get?_push_of_some _ (Heap.get?_push_of_some _ (Heap.get?_push_size _ rfl)))
  have g1 : (zT5 s.heap l1 l2).get? s.heap.objs.size = some _ := (Heap.get?_push_of_some _ (Heap.get?_push_of_some _ (Heap.get?_push_of_some _ (Heap.get?_push_of_some _ (Heap.get?_push_size _ rfl)))))
  show _ ∧ _
  rw [z2, z3, z4] at g5
  rw [z1, z2] at g3
  rw [z3] at g4
  rw [z1] at g2
  rw [z4]
  exact ⟨⟨_, g5, rfl⟩, h _ g5 g3 g4 ⟨_, g1, rfl, rfl⟩ ⟨_, g2, rfl, rfl⟩ fun c o x => (Heap.get?_push_of_some _ (Heap.get?_push_of_some _ (Heap.get?_push_of_some _ (Heap.get?_push_of_some _ (Heap.get?_push_of_some _ x)))))⟩
end
/-- the pairs of the tuples at a and b -/
def ItzT (K : PySem.W.Frag) (a b : Addr) : It :=
  ⟨fun i H => ∃ xs ys x y, SqT K H a xs ∧ SqT K H b ys ∧ xs[i]? = some x ∧ ys[i]? = some y,
   fun i H v H' => ∃ t x y, v = .ref t ∧ H t = none ∧ H' = upd H t (.tup [x, y]) ∧ (∀ xs, SqT K H a xs → xs[i]? = some x) ∧ (∀ ys, SqT K H b ys → ys[i]? = some y),
   fun i H => ∃ xs ys, SqT K H a xs ∧ SqT K H b ys ∧ (xs.length ≤ i ∨ ys.length ≤ i)⟩
def ZstT (z TI TO i1 i2 l1 l2 : Addr) (i : Nat) (h : Heap) : Prop := IsZip h z TI TO .none ∧ IsPair h TI (.ref i1) (.ref i2) ∧ (∃ a b, IsPair h TO a b) ∧ h.IsTupleIter i1 l1 i ∧ h.IsTupleIter i2 l2 i
theorem Zap.apartT {X : Cx} {H : Hp} {s : Shared} {z TI TO i1 i2 l1 l2 : Addr} {i : Nat} {xs ys : List Value} {us vs : List V} (d : Zap z TI TO i1 i2) (st : ZstT z TI TO i1 i2 l1 l2 i s.heap) (p : s.heap.IsTuple l1 xs.toArray) (q : s.heap.IsTuple l2 ys.toArray) (hn : H TO = none) (hK : X.K.lookup TO = none)
    (hq : SqT X.K H l1 us) (hq' : SqT X.K H l2 vs) : ZipApart z TI TO i1 i2 l1 l2 := by
  obtain ⟨hz, hTI, ⟨a, b, hTO⟩, ⟨o1, e1, c1, _⟩, ⟨o2, e2, c2, _⟩⟩ := st
  obtain ⟨ol, el, cl, _⟩ := p
  obtain ⟨om, em, cm, _⟩ := q
  have nTO : ∀ {l : Addr} {ws : List V}, SqT X.K H l ws → l ≠ TO := fun {l ws} h => by
    rintro rfl
    rcases h with (h | ⟨o, h⟩) | ⟨_, _, _, h, _⟩
    · rw [hn] at h; cases h
    · rw [hn] at h; cases h
    · rw [hK] at h; cases h
  exact ⟨d.a1, d.a2, d.a3, d.a4, d.a5, d.a6, d.a7, d.a8, d.a9, d.b1,
    ne_cls el hz (by rw [cl]; exact nT (by decide)), nTO hq, ne_cls el e1 (by rw [cl, c1]; decide), ne_cls el e2 (by rw [cl, c2]; decide),
    ne_cls em hz (by rw [cm]; exact nT (by decide)), nTO hq', ne_cls em e1 (by rw [cm, c1]; decide), ne_cls em e2 (by rw [cm, c2]; decide)⟩
theorem turn_zipT {P : Program} {w : World} {K : PySem.W.Frag} {elts : List Expr} {x1} {tpos : Pos} (l1 l2 z TI TO i1 i2 : Addr) (d : Zap z TI TO i1 i2) (hKT : K.lookup TO = none) :
    Turn P w K (.Tuple elts x1 tpos) (ItzT K l1 l2) [z, TI, TO, i1, i2] z (ZstT z TI TO i1 i2 l1 l2) where
  mem := by simp
  obj := fun i h st b hb => by
    obtain ⟨hz, hTI, ⟨_, _, hTO⟩, ⟨o1, e1, _, d1⟩, ⟨o2, e2, _, d2⟩⟩ := st
    simp only [List.mem_cons, List.not_mem_nil, or_false] at hb
    rcases hb with rfl | rfl | rfl | rfl | rfl
    · exact ⟨_, hz, fun v z => by cases z⟩
    · exact ⟨_, hTI, fun v z => by cases z⟩
    · exact ⟨_, hTO, fun v z => by cases z⟩
    · exact ⟨o1, e1, fun v z => by rw [d1] at z; cases z⟩
    · exact ⟨o2, e2, fun v z => by rw [d2] at z; cases z⟩
  keep := fun i h h' st k => by
    obtain ⟨hz, hTI, ⟨a, b, hTO⟩, h1, h2⟩ := st
    exact ⟨k z (by simp) _ hz, k TI (by simp) _ hTI, ⟨a, b, k TO (by simp) _ hTO⟩, h1.at fun o e => k i1 (by simp) o e, h2.at fun o e => k i2 (by simp) o e⟩
  item := by
    intro X hP hw hK hc i pins s σ H E I hf st hg
    subst hP hw hK
    obtain ⟨xs, ys, x, y, hq, hq', hx, hy⟩ := hg
    obtain ⟨its, rv, p0, hz0⟩ := I.tuple hq
    obtain ⟨its', rv', p0', hz0'⟩ := I.tuple hq'
    have p : s.heap.IsTuple l1 its.toArray := p0
    have p' : s.heap.IsTuple l2 its'.toArray := p0'
    obtain ⟨u, hu, ru⟩ := rv.get hx
    obtain ⟨u', hu', ru'⟩ := rv'.get hy
    have D := d.apartT st p p' (hf TO (by simp)).1 hKT hq hq'
    obtain ⟨hz, hTI, ⟨va, vb, hTO⟩, hi1, hi2⟩ := st
    refine nextZipT D hz hTI hTO hi1 hi2 p p' (x := u) (y := u') (by simpa using hu) (by simpa using hu') fun h' a1 a2 a3 a4 a5 a6 hk => ?_
    refine ⟨_, rfl, wpAny_letOwnedTupleGo_zip a1 fun h'' hz'' hs'' => ?_⟩
    have hTn : H s.heap.objs.size = none := I.hok.fresh (Nat.le_refl _)
    have lz : z < s.heap.objs.size := Heap.lt_size hz
    have lo : TO < s.heap.objs.size := Heap.lt_size hTO
    have lI : TI < s.heap.objs.size := Heap.lt_size hTI
    have l1' : i1 < s.heap.objs.size := by obtain ⟨o, e, _⟩ := id hi1; exact Heap.lt_size e
    have l2' : i2 < s.heap.objs.size := by obtain ⟨o, e, _⟩ := id hi2; exact Heap.lt_size e
    have keep : ∀ b o, b ≠ z → b ≠ TO → b ≠ i1 → b ≠ i2 → s.heap.get? b = some o → h''.get? b = some o := fun b o n1 n2 n3 n4 e => (hs''.2 b n1).trans (hk b o n1 n2 n3 n4 e)
    have htup : h''.get? s.heap.objs.size = some { cls := .type "tuple", data := .seq #[u, u'] } := (hs''.2 _ (Nat.ne_of_gt lz)).trans a5
    have nt : ∀ {b v}, H b = some v → b ≠ z ∧ b ≠ TO ∧ b ≠ i1 ∧ b ≠ i2 := fun {b v} e => ⟨ne_of_none e (hf z (by simp)).1, ne_of_none e (hf TO (by simp)).1, ne_of_none e (hf i1 (by simp)).1, ne_of_none e (hf i2 (by simp)).1⟩
    have hok : HOk X.prog X.w (upd H s.heap.objs.size (.tup [x, y])) h'' := fun b o e => by
      by_cases hb : b = s.heap.objs.size
      · subst hb
        rw [upd_same] at e
        cases e
        exact ⟨by show 2 ≤ sizeLine; decide, [u, u'], .cons ru (.cons ru' .nil), ⟨_, htup, rfl, _, rfl⟩⟩
      · rw [upd_ne hb] at e
        refine (I.hok b o e).stay (fun c v hc' q => ?_) (fun c q => by rw [upd_ne (ne_of_none q hTn)]; exact q) fun c ys q => by rw [upd_ne (ne_of_none q hTn)]; exact q
        obtain ⟨n1, n2, n3, n4⟩ : c ≠ z ∧ c ≠ TO ∧ c ≠ i1 ∧ c ≠ i2 := by
          rcases hc' with rfl | hc'
          · exact nt e
          · exact nt hc'
        exact keep c v n1 n2 n3 n4 q
    have un : Un (frs X.stack) [z, TI, TO, i1, i2] H (upd H s.heap.objs.size (.tup [x, y])) s.heap h'' := by
      have kp : ∀ {b o}, b ∉ [z, TI, TO, i1, i2] → s.heap.get? b = some o → h''.get? b = some o := fun {b o} hb e => keep b o (fun q => hb (by simp [q])) (fun q => hb (by simp [q])) (fun q => hb (by simp [q])) (fun q => hb (by simp [q])) e
      refine ⟨fun b o e n _ hx => kp hx e, fun b o e n _ hx => ⟨o.slots, kp hx e⟩, fun b o e n _ => by rw [upd_ne (Nat.ne_of_lt (Heap.lt_size e))]; exact n, fun b o e hx => ⟨o, kp hx e⟩,
        fun b ys e => by rw [upd_ne (ne_of_none e hTn)]; exact e, fun b o v e => by rw [upd_ne (ne_of_none e hTn)]; exact e, fun b ps e => ⟨#[], by rw [upd_ne (ne_of_none e hTn), e]; simp⟩⟩
    have I1 : Inv X pins σ (upd H s.heap.objs.size (.tup [x, y])) { s with heap := h'' } := I.call' (s' := { s with heap := h'' }) rfl un hok I.bare fun b hb => by
      have f := hf b hb
      exact ⟨f.2.2.2.1, f.2.1, f.2.2.2.2.1, f.2.2.2.2.2⟩
    refine ⟨.ref s.heap.objs.size, _, I1, rfl, ⟨_, x, y, rfl, hTn, rfl, fun zs h => by rw [I.tuple_inj h hq]; exact hx, fun zs h => by rw [I.tuple_inj h hq']; exact hy⟩, ?_, fun b hb => ?_⟩
    · exact ⟨hz'', keep _ _ D.TIz D.TITO D.TIi1 D.TIi2 hTI, ⟨u, u', (hs''.2 _ D.TOz).trans a2⟩, a3.at fun o e => (hs''.2 _ D.i1z).trans e, a4.at fun o e => (hs''.2 _ D.i2z).trans e⟩
    · rw [upd_ne (fun q => ?_)]
      · exact (hf b hb).1
      · have hq : b < s.heap.objs.size := by
          simp only [List.mem_cons, List.not_mem_nil, or_false] at hb
          rcases hb with rfl | rfl | rfl | rfl | rfl <;> assumption
        exact absurd q (Nat.ne_of_lt hq)
  done := by
    intro X hP hw hK hc i pins s σ H E I hf st hg
    subst hP hw hK
    obtain ⟨xs, ys, hq, hq', hx⟩ := hg
    obtain ⟨its, rv, p0, hz0⟩ := I.tuple hq
    obtain ⟨its', rv', p0', hz0'⟩ := I.tuple hq'
    have p : s.heap.IsTuple l1 its.toArray := p0
    have p' : s.heap.IsTuple l2 its'.toArray := p0'
    have D := d.apartT st p p' (hf TO (by simp)).1 hKT hq hq'
    obtain ⟨hz, hTI, ⟨va, vb, hTO⟩, hi1, hi2⟩ := st
    have hl := rv.length
    have hl' := rv'.length
    refine stopZipT (show X.A.handled = none from I.ok.hd hc) D hz hTI hTO hi1 hi2 p p' (by simp; omega) fun h' hk => ⟨rfl, ?_⟩
    have nt : ∀ {b v}, H b = some v → b ≠ z ∧ b ≠ TO ∧ b ≠ i1 ∧ b ≠ i2 := fun {b v} e => ⟨ne_of_none e (hf z (by simp)).1, ne_of_none e (hf TO (by simp)).1, ne_of_none e (hf i1 (by simp)).1, ne_of_none e (hf i2 (by simp)).1⟩
    have hok : HOk X.prog X.w H h' := fun b o e => by
      refine (I.hok b o e).stay (fun c v hc' q => ?_) (fun c q => q) fun c ys q => q
      obtain ⟨n1, n2, n3, n4⟩ : c ≠ z ∧ c ≠ TO ∧ c ≠ i1 ∧ c ≠ i2 := by
        rcases hc' with rfl | hc'
        · exact nt e
        · exact nt hc'
      exact hk c v n1 n2 n3 n4 q
    have un : Un (frs X.stack) [z, TI, TO, i1, i2] H H s.heap h' := by
      have kp : ∀ {b o}, b ∉ [z, TI, TO, i1, i2] → s.heap.get? b = some o → h'.get? b = some o := fun {b o} hb e => hk b o (fun q => hb (by simp [q])) (fun q => hb (by simp [q])) (fun q => hb (by simp [q])) (fun q => hb (by simp [q])) e
      exact ⟨fun b o e n _ hx => kp hx e, fun b o e n _ hx => ⟨o.slots, kp hx e⟩, fun b o e n _ => n, fun b o e hx => ⟨o, kp hx e⟩, fun b ys e => e, fun b o v e => e, fun b ps e => ⟨#[], by rw [e]; simp⟩⟩
    exact I.call' (s' := { s with heap := h' }) rfl un hok I.bare fun b hb => by
      have f := hf b hb
      exact ⟨f.2.2.2.1, f.2.1, f.2.2.2.2.1, f.2.2.2.2.2⟩
  self := fun _ _ _ _ _ st h => wpAny_pyIter_zip st.1 h
section
variable {X : Cx}
def iZipT (K : PySem.W.Frag) (ta : TA) : TI := fun σ H R => ta σ H fun vs H1 => ∃ a b, vs = [.ref a, .ref b] ∧ (∃ xs ys, SqT K H1 a xs ∧ SqT K H1 b ys) ∧ R (ItzT K a b) H1
theorem pi_zipT {elts : List Expr} {x1} {tpos : Pos} {l m : Expr} {ta : TA} {p pos : Pos} (hg : Gl X "zip") (hm : X.mg "zip" = none) (ha : PA X [l, m] ta) (hs : starEach [l, m] X.env = [(false, eval l X.env), (false, eval m X.env)] := by rfl) (hs2 : starEach [m] X.env = [(false, eval m X.env)] := by rfl) :
    PI X (.Tuple elts x1 tpos) (.Call (.Name "zip" p) [l, m] [] pos) (iZipT X.K ta) := by
  intro pins s σ H R I h
  refine Call_ (ld_blt I hg hm (show bootBuiltins "zip" = some (.type "zip") by decide +kernel) (PyProof.Rows.callWith_type1 (thn (ha pos pins s σ H _ I h) fun us s1 ⟨vs, H1, I1, r1, q1⟩ => ?_) (by rw [hs, hs2]) (by rw [hs2]; rfl)))
  obtain ⟨a, b, e, ⟨xs, ys, hq, hq'⟩, q⟩ := q1
  subst e
  cases r1 with
  | cons r rr =>
    cases rr with
    | cons r' rr =>
      cases rr
      cases r
      cases r'
      obtain ⟨its, rv, pl, hz⟩ := I1.tuple hq
      obtain ⟨its', rv', pl', hz'⟩ := I1.tuple hq'
      refine callZipT (show s1.heap.IsTuple a its.toArray from pl) (show s1.heap.IsTuple b its'.toArray from pl') fun h' hz hTI hTO h1 h2 hk => ?_
      refine wpAny_pyIter_zip hz ?_
      have hKT : X.K.lookup (s1.heap.objs.size + 3) = none := by
        cases hl : X.K.lookup (s1.heap.objs.size + 3) with
        | none => rfl
        | some o => exact absurd (Heap.lt_size (I1.kIn _ o hl)) (Nat.not_lt.mpr (Nat.le_add_right _ _))
      have zap : Zap (s1.heap.objs.size + 4) (s1.heap.objs.size + 2) (s1.heap.objs.size + 3) s1.heap.objs.size (s1.heap.objs.size + 1) := zap_of _
      refine ⟨s1.heap.objs.size + 4, [s1.heap.objs.size + 4, s1.heap.objs.size + 2, s1.heap.objs.size + 3, s1.heap.objs.size, s1.heap.objs.size + 1], _, _, H1, rfl, I1.kept (t' := s1.toks) hk, turn_zipT a b _ _ _ _ _ zap hKT, ⟨hz, hTI, ⟨_, _, hTO⟩, h1, h2⟩, fun b hb => ?_, q⟩
      have hb : s1.heap.objs.size ≤ b := by
        simp only [List.mem_cons, List.not_mem_nil, or_false] at hb
        rcases hb with rfl | rfl | rfl | rfl | rfl <;> omega
      exact I1.fpOk hb (I1.hok.fresh hb)
theorem i_iZipT {K : PySem.W.Frag} {ta : TA} {σ : St} {H : Hp} {R : It → Hp → Prop} (h : ta σ H fun vs H1 => ∃ a b, vs = [.ref a, .ref b] ∧ (∃ xs ys, SqT K H1 a xs ∧ SqT K H1 b ys) ∧ R (ItzT K a b) H1) : iZipT K ta σ H R := h
end
/-- a comprehension over the pairs of two tuples, n of them -/
theorem compT_zipTM {K : PySem.W.Frag} {a b D : Addr} {xs ys : List V} {g : TG} {te : TE} {n m : Nat} {fr : St} {R : Hp → Prop} {H1 : Hp} (f : Nat → V) (hq : SqT K H1 a xs) (hq' : SqT K H1 b ys) (h1 : m ≤ xs.length) (h2 : m ≤ ys.length) (h3 : xs.length ≤ m ∨ ys.length ≤ m) (hD : H1 D = none)
    (hs : ∀ i x y H t pre, i < m → xs[i]? = some x → ys[i]? = some y → Same H1 H → H D = some (.lst ((List.range i).map f)) → H t = none → List.length pre = n → g (.ref t) (pre ++ fr) (upd H t (.tup [x, y])) fun σ' H' => (∃ pre', List.length pre' = n ∧ σ' = pre' ++ fr) ∧ te σ' H' (MpK H1 D f m i))
    (hd : ∀ H, Same H1 H → H D = some (.lst ((List.range m).map f)) → R H) : tCompBT (ItzT K a b) g te n fr D R H1 := by
  refine ⟨cW m (Mp H1 D f), ⟨m, by simp, Nat.zero_le _, Mp.zero hD⟩, ?_⟩
  rintro i j H ⟨rfl, hi, p⟩
  have q := p.1.tup hq
  have q' := p.1.tup hq'
  by_cases hlt : i < m
  · refine .inr ⟨⟨xs, ys, xs[i]'(by omega), ys[i]'(by omega), q, q', List.getElem?_eq_getElem _, List.getElem?_eq_getElem _⟩, fun y H' pre yl hp => ?_⟩
    obtain ⟨t, x, y, rfl, ht, rfl, hx, hy⟩ := yl
    exact hs i x y H t pre hlt (hx xs q) (hy ys q') p.1 p.2 ht hp
  · have e : i = m := by omega
    subst e
    exact .inl ⟨⟨xs, ys, q, q', h3⟩, hd H p.1 p.2⟩
end L2
namespace L2
open PySem PySem.Spec PyProof.Rows HT
/-! ### t[lo:hi] that is the whole of t: t itself -/
section
variable {prog : Program} {w : World} {A : Around} {E : Value → Shared → Prop} {s : Shared}
theorem getTupWhole {t sl : Addr} {items : Array Value} {vl vu : Value} {lo hi : Option Int} {Q : Value → Shared → Prop} (ht : IsTup s.heap t items) (hs : s.heap.IsSliceOf sl vl vu .none) (pl : IsPart vl lo) (pu : IsPart vu hi)
    (hw : sIx items.size 0 lo = 0 ∧ sIx items.size items.size hi = items.size) (h : Q (.ref t) s) : wpAny (model prog w) A (getItem (.ref t) (.ref sl)) Q E s := by
  obtain ⟨os, hos, hcs, hds⟩ := id hs
  have hTs : s.TypeIs (.ref sl) "slice" := ⟨os, hos, hcs⟩
  unfold getItem
  try with_reducible refine wpAny_holding ?_
  first | refine wpAny_bind (wpAny_pure ?_) | skip
  refine wpAny_bind (wpAny_sequenceKey ht.typeIs (by decide) ?_)
  refine wpAny_bind (wpAny_callSpecial?_slot (name := Str.ofString "__getitem__") ht.typeIs PyProof.Rows.slot_tuple_getitem
    (wpAny_call_entry PyProof.Rows.slot_tuple_getitem ht.typeIs entry_tuple_getitem ?_ (args_tuple_getitem _ _)))
  show wpAny _ _ (Builtin.Tuple.tupleItemsOf (.ref t) >>= _) _ _ s
  refine wpAny_bind (tupleItemsOf_ ht ?_)
  refine wpAny_bind (wpAny_typeOf hTs ?_)
  rw [if_pos (by decide)]
  refine wpAny_bind (sliceApplied_gen hs pl pu ?_)
  have hyes : (((sIx items.size 0 lo : Nat) : Int) == 0 && (1 : Int) == 1 && (sIx items.size items.size hi - sIx items.size 0 lo) == items.size) = true := by
    rw [hw.1, hw.2]
    simp
  show wpAny _ _ (if (((sIx items.size 0 lo : Nat) : Int) == 0 && (1 : Int) == 1 && (sIx items.size items.size hi - sIx items.size 0 lo) == items.size) = true then _ else _) _ _ s
  rw [if_pos hyes]
  refine wpAny_bind (m := Builtin.Tuple.tupleIsExact _) ?_
  unfold Builtin.Tuple.tupleIsExact
  refine wpAny_bind (wpAny_typeOf ht.typeIs (wpAny_pure ?_))
  show wpAny _ _ (if (Value.type "tuple" == Value.type "tuple") = true then _ else _) _ _ s
  rw [if_pos (by decide)]
  first
    | exact wpAny_bind (wpAny_rule (wpAny_pure ⟨_, rfl, wpAny_pure h⟩))
    | exact wpAny_bind (wpAny_rule (wpAny_bind (wpAny_pure (wpAny_pure ⟨_, rfl, wpAny_pure h⟩))))
    | exact wpAny_bind (wpAny_bind (wpAny_rule (wpAny_pure (wpAny_pure ⟨_, rfl, wpAny_pure h⟩))))
end
section
variable {X : Cx}
def rSlTw (K : PySem.W.Frag) : V → Option Int → Option Int → Hp → VK → Prop := fun x lo hi H Q => ∃ a xs, x = .ref a ∧ SqT K H a xs ∧ (HT.sIx xs.length 0 lo = 0 ∧ HT.sIx xs.length xs.length hi = xs.length) ∧ Q (.ref a) H
theorem sl_tupW : SlR X (rSlTw X.K) := by
  intro pins s σ H x v vl vu lo hi sl Q I rx hs pl pu h
  obtain ⟨a, xs, rfl, hx, hw, q⟩ := h
  cases rx
  obtain ⟨its, r, ht, hz⟩ := I.tuple hx
  have hlen : its.toArray.size = xs.length := by rw [List.size_toArray]; exact r.length.symm
  exact ⟨"tuple", _, PyProof.Rows.slot_tuple_getitem.lookup, ht.typeIs, getTupWhole ht hs pl pu (by rw [hlen]; exact hw) ⟨.ref a, H, I, rfl, q⟩⟩
end
end L2
/-! != of an empty dict with itself -/
namespace L2
open PySem PySem.Spec PyProof.Rows PySem.SeqAt
open AutoSeq1 (wpAny_loadPart')
section
variable {X : Cx}
end
end L2
namespace L2
open PySem PySem.Spec PyProof.Rows
section
variable {X : Cx} {a b : Expr} {ta tb : TE} {pos : Pos} {ts : TS} {st : Stmt}
end
end L2
namespace L2
open PySem PySem.Spec PyProof.Rows
/-- an attribute within a comprehension -/
theorem pe_fldK {X : Cx} {K : PySem.W.Frag} {e : Expr} {f : Str} {pos : Pos} {ta : TE} (hK : X.K = K) (he : PE X e ta) (hb : attributeBase e f X.env (eval e X.env) = eval e X.env) : PE X (.Attribute e f pos) (tFld K ta f) := hK ▸ pe_fld he hb
end L2
/-! A COMPREHENSION of lists with one test, that names locals of the def around -/
namespace L2
open PySem PySem.Spec PyProof.Rows
def tCompBI (J : It) (tc : TT) (te : TE) (fr : St) (D : Addr) (R : Hp → Prop) (H1 : Hp) : Prop := ∃ W : Nat → Nat → Hp → Prop, (∃ m, W 0 m (upd H1 D (.lst []))) ∧
  ∀ i m H2, W i m H2 → (J.stop i H2 ∧ R H2) ∨ (J.go i H2 ∧ ∀ x H3, J.yld i H2 x H3 → tc (some x :: fr) H3 fun b H4 => if b = true then te (some x :: fr) H4 (fun y H5 => ∃ ys, H5 D = some (.lst ys) ∧ ys.length < sizeLine ∧ ∃ m', m' < m ∧ W (i + 1) m' (upd H5 D (.lst (ys ++ [y])))) else ∃ m', m' < m ∧ W (i + 1) m' H4)
def tCompI (wi : TI) (tc : TT) (te : TE) (js : List Nat) : TE := fun σ H Q => wi σ H fun J H1 => ∀ D, H1 D = none → tCompBI J tc te (takeS js σ) D (fun H2 => Q (.ref D) H2) H1
section
variable {X : Cx} {iter elt cnd : Expr} {tc : TT} {x : Str} {px pos : Pos} {scope : Scope} {te : TE} {wi : TI} {pins : List (Addr × Obj)} {σ : St} {ys : List Str} {js : List Nat}
theorem comp_coreI {s2 : Shared} {H2 : Hp} {it : Addr} {fp : List Addr} {tn : Nat → Heap → Prop} {J : It} (hc : X.calm = true)
    (ht : ∀ (C : Addr) (s2 : Shared) (H2 : Hp) (fp : List Addr), PT (X.compF scope ys C x s2 H2 fp) cnd tc) (he : ∀ (C : Addr) (s2 : Shared) (H2 : Hp) (fp : List Addr), PE (X.compF scope ys C x s2 H2 fp) elt te)
    (hcell : ∀ y ∈ scope.names, y.2 ≠ .cell) (hkind : scope.kind = .function) (hx : scope.names.lookup x = some .local) (hnd : (x :: ys).Nodup)
    (hfr : ∀ y ∈ scope.names, y.2 = .free → y.1 ∈ ys) (hyc : ∀ y ∈ ys, X.env.kindOf y = some .cell) (hrel : ∀ y ∈ ys, (relabel scope X.env).names.lookup y = some .cell) (hjs : js.map (fun j => X.N[j]?) = ys.map some)
    (I2 : Inv X pins σ H2 s2) (T : Turn X.prog X.w X.K (.Name x px) J fp it tn) (st2 : tn 0 s2.heap) (f2 : ∀ b ∈ fp, FpOk X pins H2 b)
    {R : Addr → Hp → Prop} (h : ∀ D, H2 D = none → tCompBI J tc te (takeS js σ) D (R D) H2) {RR : Value → Addr → Result → Shared → Prop} {E : Value → Shared → Prop}
    (hR : ∀ (D C : Addr) (H' : Hp) (s' : Shared) (m : Str → Option Value), FpOk X pins H' C → s'.heap.Ns C m → Inv X pins σ H' s' → R D H' → RR (.ref D) C (.ok .next) s') :
    wpAny (model X.prog X.w) X.A (newList []) (fun acc s₃ => wpAny (model X.prog X.w) X.A (newFunctionEnv scope X.env.globals (clOf ys X.env) [] X.env.qual none .none (some X.env)) (fun cenv s₄ =>
      codeAny (model X.prog X.w) X.A (.compStart (.ListComp elt [⟨.Name x px, iter, [cnd], 0⟩] scope pos) 0 (.ref it) acc { cenv with scope := relabel scope X.env }) (RR acc cenv.locals) s₄) E s₃) E s2 := by
  have hsub : ∀ y c, (clOf ys X.env).lookup y = some c → X.env.cells.lookup y = some c := fun y c e => by
    obtain ⟨m, rfl⟩ := clOf_mem e
    obtain ⟨c', q⟩ := I2.ok.has y (.inl (hyc y m))
    rw [q]
    rfl
  refine wpAny_newObj_type (wpAny_newFunctionEnv hcell (by intro y hy; simp at hy) (fun h₁ hns₁ hsb₁ => ?_) hkind)
  dsimp only at hns₁ hsb₁ ⊢
  generalize hH2 : s2.heap.push { cls := .type "list", dict := none, data := .seq ([] : List Value).toArray } = G at hns₁ hsb₁ ⊢
  have hC : G.objs.size = s2.heap.objs.size + 1 := by rw [← hH2, Heap.size_push]
  have hDC : s2.heap.objs.size ≠ G.objs.size := by rw [hC]; exact Nat.ne_of_lt (Nat.lt_succ_self _)
  have hCle : s2.heap.objs.size ≤ G.objs.size := by rw [hC]; exact Nat.le_succ _
  have below : ∀ b, b < s2.heap.objs.size → b ≠ G.objs.size ∧ b ≠ s2.heap.objs.size := fun b hb => ⟨by rw [hC]; exact Nat.ne_of_lt (Nat.lt_succ_of_lt hb), Nat.ne_of_lt hb⟩
  have old : ∀ b o, s2.heap.get? b = some o → h₁.get? b = some o := fun b o e => hsb₁.extBut b o (below b (Heap.lt_size e)).1 (Heap.get?_push_of_some _ (hH2 ▸ Heap.get?_push_of_some _ e))
  have hacc : h₁.get? s2.heap.objs.size = some { cls := .type "list", data := .seq ([] : List Value).toArray } := hsb₁.extBut _ _ hDC (Heap.get?_push_of_some _ (hH2 ▸ Heap.get?_push_size _ rfl))
  have fpl : ∀ b ∈ fp, b < s2.heap.objs.size := fun b hb => let ⟨_, e, _⟩ := T.obj 0 _ st2 b hb; Heap.lt_size e
  have fpS : ∀ b ∈ fp, b ∉ frs X.stack := fun b hb z => (List.mem_cons.mp (I2.stkSub b z)).elim (f2 b hb).2.1 (f2 b hb).2.2.1
  have nC : H2 G.objs.size = none := I2.hok.fresh hCle
  have nD : H2 s2.heap.objs.size = none := I2.hok.fresh (Nat.le_refl _)
  have cellOld : ∀ y c, (clOf ys X.env).lookup y = some c → ∃ v o, s2.heap.get? c = some o ∧ o.data = .cell v := fun y c e => by
    obtain ⟨v, o, q1, q2⟩ := I2.cell y c (hsub y c e)
    exact ⟨v, o, q1, q2⟩
  have okC : (X.compF scope ys G.objs.size x s2 H2 fp).Ok := by
    refine ⟨I2.ok.mod, hkind, I2.ok.glob, I2.ok.blt, hCle, fun y z c e e' => I2.ok.inj y z c (hsub y c e) (hsub z c e'), fun y e => ?_, fun y c z e => (by cases z), I2.ok.hd, I2.ok.frames, .inl rfl, fun b hb => ⟨(below b (fpl b hb)).1, fun y c e => (f2 b hb).2.2.2.2.1 y c (hsub y c e)⟩, I2.bs, ?_, fun b o e hb => ?_, fun b hb => fpS b hb, I2.stack, I2.stkFree⟩
    · have e' : (relabel scope X.env).names.lookup y = some .cell ∨ (relabel scope X.env).names.lookup y = some .free := e
      have hin : y ∈ ys := by
        rcases e' with e' | e'
        · obtain ⟨k0, m, q⟩ := relabel_lookup e'
          rcases q with q | q
          · exact absurd q.symm (hcell _ m)
          · exact hfr _ m q
        · obtain ⟨k0, m, q⟩ := relabel_lookup e'
          rcases q with q | q
          · exact hfr _ m q.symm
          · exact hfr _ m q
      exact ⟨_, clOf_get hin⟩
    · exact Nat.le_trans I2.ok.bsz I2.sz
    · rcases (f2 b hb).2.2.2.1 with z | z
      · exact I2.ok.noex b o e z
      · exact absurd (Nat.lt_of_lt_of_le (Heap.lt_size (I2.ok.bs b o e).1) z) (Nat.lt_irrefl _)
  have hlen : (takeS js σ).length = ys.length := by
    have := congrArg List.length hjs
    simpa [takeS] using this
  have I3 : ∀ tk, Inv (X.compF scope ys G.objs.size x s2 H2 fp) [] (none :: takeS js σ) (upd H2 s2.heap.objs.size (.lst [])) { s2 with heap := h₁, toks := tk } := fun tk =>
    ⟨okC, rfl, I2.bare, Un.laid old (Nat.le_refl _) nD, ⟨_, hns₁, fun i y v e1 e2 e3 => by
        cases i with
        | zero => cases e2
        | succ i =>
          have e1 : ys[i]? = some y := by simpa using e1
          have e2 : (takeS js σ)[i]? = some (some v) := by simpa using e2
          have hy : y ∈ ys := List.mem_of_getElem? e1
          have ej := congrArg (fun l => l[i]?) hjs
          simp only [List.getElem?_map, e1, Option.map_some] at ej
          cases q : js[i]? with
          | none => rw [q] at ej; cases ej
          | some j =>
            rw [q] at ej
            have ej : X.N[j]? = some y := by simpa using ej
            have es : σ[j]? = some (some v) := by
              simp only [takeS, List.getElem?_map, q, Option.map_some, Option.some.injEq] at e2
              cases r : σ[j]? with
              | none => rw [r] at e2; cases e2
              | some w' => rw [r] at e2; rw [show w' = some v from e2]
            obtain ⟨m0, _, hl0⟩ := I2.loc
            obtain ⟨u, ru, lk⟩ := hl0 j y v ej es (.inr (.inl (hyc y hy)))
            refine ⟨u, ru, .inr ⟨.inl (hrel y hy), ?_⟩⟩
            rcases lk with ⟨k1, _⟩ | ⟨_, c, ec, o, ho, hd⟩
            · rw [hyc y hy] at k1; cases k1
            · refine ⟨c, ?_, o, old c o ho, hd⟩
              show (clOf ys X.env).lookup y = some c
              rw [clOf_get hy, ec]
              rfl⟩, fun y c e => (by
        obtain ⟨v, o, q1, q2⟩ := cellOld y c e
        exact ⟨v, o, old c o q1, q2⟩), (by show upd H2 s2.heap.objs.size _ G.objs.size = none; rw [upd_ne hDC.symm]; exact nC), fun y c e => (by
        obtain ⟨v, o, q1, q2⟩ := cellOld y c e
        show upd H2 s2.heap.objs.size _ c = none
        rw [upd_ne (below c (Heap.lt_size q1)).2]
        exact I2.freeC y c (hsub y c e)), fun p hp => (by simp at hp),
      I2.hok.laid old (Nat.le_refl _) ⟨Nat.zero_le _, [], _, .nil, hacc⟩, by show (none :: takeS js σ).length = (x :: ys).length; simp [hlen]⟩
  have stat : ∀ {H' : Hp}, (∀ b ∈ fp, H' b = none) → ∀ b ∈ fp, FpOk (X.compF scope ys G.objs.size x s2 H2 fp) [] H' b := fun hn b hb => ⟨hn b hb, (below b (fpl b hb)).1, fpS b hb, .inl hb, fun y c e => (f2 b hb).2.2.2.2.1 y c (hsub y c e), fun p hp => (by simp at hp)⟩
  have loop : ∀ tk, codeAny (model X.prog X.w) X.A (.compLoop (.ListComp elt [⟨.Name x px, iter, [cnd], 0⟩] scope pos) 0 (.ref it) (.ref s2.heap.objs.size) (compEnvC scope (clOf ys X.env) G.objs.size X.env)) (RR (.ref s2.heap.objs.size) G.objs.size) { s2 with heap := h₁, toks := tk } := by
    intro tk
    obtain ⟨W, ⟨m0, w0⟩, turn⟩ := h s2.heap.objs.size nD
    refine codeAny_loop rfl (fun n s' => ∃ i v H', Inv (X.compF scope ys G.objs.size x s2 H2 fp) [] (v :: takeS js σ) H' s' ∧ tn i s'.heap ∧ (∀ b ∈ fp, H' b = none) ∧ W i n H') (fun n s' hI => ?_) m0
      ⟨0, none, _, I3 tk, T.keep 0 _ _ st2 (fun b hb o e => old b o e), fun b hb => (by rw [upd_ne (below b (fpl b hb)).2]; exact (f2 b hb).1), w0⟩
    obtain ⟨i, v, H', I, st, fr, w⟩ := hI
    show wpAny _ _ ((compTurn (.ListComp elt [⟨.Name x px, iter, [cnd], 0⟩] scope pos) 0 (.ref it) (.ref s2.heap.objs.size) (compEnvC scope (clOf ys X.env) G.objs.size X.env)).onRaise (fun x => do noteFrame x (compEnvC scope (clOf ys X.env) G.objs.size X.env); theTreesLotGoes x)) _ _ s'
    refine wpAny_noted ?_
    rw [compTurn_list]
    refine wpAny_bind (wpAny_standAt (wpAny_bind ?_))
    rcases turn i n H' w with ⟨stop, q⟩ | ⟨go, step⟩
    · refine thn (T.done (X.compF scope ys G.objs.size x s2 H2 fp) rfl rfl rfl hc i [] s' (v :: takeS js σ) H' _ I (stat fr) st stop) fun r s4 ⟨hr, I4⟩ => ?_
      subst hr
      refine wpAny_pure ?_
      obtain ⟨m, hn, _⟩ := I4.loc
      exact hR _ _ H' s4 m (I2.fpOk hCle I4.free) hn (I2.call' (ch := fp) I4.os I4.base I4.hok I4.bare fun b hb => ⟨(f2 b hb).2.2.2.1, (f2 b hb).2.1, (f2 b hb).2.2.2.2.1, (f2 b hb).2.2.2.2.2⟩) q
    · refine thn (T.item (X.compF scope ys G.objs.size x s2 H2 fp) rfl rfl rfl hc i [] s' (v :: takeS js σ) H' _ I (stat fr) st go) fun r s4 ⟨u, hr, h4⟩ => ?_
      subst hr
      refine wpAny_bind (thn h4 fun _ s5 ⟨y, H5, I5, r5, y5, st5, fr5⟩ => wpAny_bind ?_)
      have I5' := I5.pinned (stat fr5) (T.obj _ _ st5)
      refine wpAny_assign_Name (store_ok (i := 0) I5' hnd rfl (Or.inl (lookup_relabel_local hx)) r5 (fun s6 I6 => ?_) (Or.inr (lookup_relabel_local hx)))
      refine wpAny_bind (wpAny_tests_one (thnF (ht _ _ _ _ _ s6 (some y :: takeS js σ) H5 _ I6 (step y H5 y5)) fun b s7 ⟨H6, I7, q7⟩ => ?_))
      cases b with
      | false =>
        obtain ⟨m', hm, w'⟩ := q7
        have pin : ∀ b ∈ fp, ∀ o, s5.heap.get? b = some o → s7.heap.get? b = some o ∧ H6 b = none := fun b hb o e =>
          ⟨(I7.pin (b, o) (List.mem_append_right _ (List.mem_append_right _ (mem_pinsAt hb e)))).1, (I7.pin (b, o) (List.mem_append_right _ (List.mem_append_right _ (mem_pinsAt hb e)))).2.1⟩
        refine wpAny_pure ⟨rfl, m', hm, i + 1, some y, _, I7.unpinned, T.keep _ _ _ st5 fun b hb o e => (pin b hb o e).1, fun b hb => ?_, w'⟩
        obtain ⟨o, e, d⟩ := T.obj _ _ st5 b hb
        exact (pin b hb o e).2
      | true =>
        refine wpAny_bind (wpAny_bind (thnF (he _ _ _ _ _ s7 (some y :: takeS js σ) H6 _ I7 q7) fun u2 s7 ⟨y2, H7, I7, r7, zs, hD, hl, m', hm, w'⟩ => wpAny_bind ?_))
        refine thnF (mt_append _ s7 (some y :: takeS js σ) H7 (.ref s2.heap.objs.size) [y2] (.ref s2.heap.objs.size) [u2] (fun _ H8 => H8 = upd H7 s2.heap.objs.size (.lst (zs ++ [y2]))) I7 rfl (.cons r7 .nil) ⟨_, zs, y2, rfl, rfl, hD, hl, rfl⟩) fun _ s8 ⟨_, H8, I8, _, e8⟩ => ?_
        subst e8
        have pin : ∀ b ∈ fp, ∀ o, s5.heap.get? b = some o → s8.heap.get? b = some o ∧ upd H7 s2.heap.objs.size (HO.lst (zs ++ [y2])) b = none := fun b hb o e =>
          ⟨(I8.pin (b, o) (List.mem_append_right _ (List.mem_append_right _ (mem_pinsAt hb e)))).1, (I8.pin (b, o) (List.mem_append_right _ (List.mem_append_right _ (mem_pinsAt hb e)))).2.1⟩
        refine wpAny_pure (wpAny_pure ⟨rfl, m', hm, i + 1, some y, _, I8.unpinned, T.keep _ _ _ st5 fun b hb o e => (pin b hb o e).1, fun b hb => ?_, w'⟩)
        obtain ⟨o, e, d⟩ := T.obj _ _ st5 b hb
        exact (pin b hb o e).2
  exact codeAny_compStart_list (loop _) (T.self X.A 0 _ _ _ (T.keep 0 _ _ st2 (fun b hb o e => old b o e)) (loop _))
/-- name = a comprehension -/
theorem ps_compI {i : Nat} {y : Str} {py spos : Pos} (hN : X.N.Nodup) (hy : X.N[i]? = some y) (hl : X.env.scope.names.lookup y = some .local) (hc : X.calm = true) (hi : PI X (.Name x px) iter wi)
    (ht : ∀ (C : Addr) (s2 : Shared) (H2 : Hp) (fp : List Addr), PT (X.compF scope ys C x s2 H2 fp) cnd tc) (he : ∀ (C : Addr) (s2 : Shared) (H2 : Hp) (fp : List Addr), PE (X.compF scope ys C x s2 H2 fp) elt te) (hjs : js.map (fun j => X.N[j]?) = ys.map some)
    (hclos : closureFor scope X.env = pure (clOf ys X.env)) (hyc : ∀ y ∈ ys, X.env.kindOf y = some .cell) (hrel : ∀ y ∈ ys, (relabel scope X.env).names.lookup y = some .cell)
    (hsw : swapsWith (.ListComp elt [⟨.Name x px, iter, [cnd], 0⟩] scope pos) (some (.Name y py)) spos.line X.env = pure true := by rfl) (hnd : (x :: ys).Nodup := by decide)
    (hfr : ∀ y ∈ scope.names, y.2 = .free → y.1 ∈ ys := by decide +kernel) (hcell : ∀ y ∈ scope.names, y.2 ≠ .cell := by decide +kernel) (hkind : scope.kind = .function := by rfl)
    (hnames : ∀ y ∈ scope.names, y.2 = .local → scope.names.lookup y.1 = some .local := by decide +kernel) (hx : scope.names.lookup x = some .local := by rfl) (hs : ∀ x, foldedSetIterable iter X.env x = pure x := by intro _; rfl) :
    PS X (.Assign [.Name y py] (.ListComp elt [⟨.Name x px, iter, [cnd], 0⟩] scope pos) spos) (tAsg (tCompI wi tc te js) (gName i)) := by
  refine .mk fun pins s σ H D0 I h => ?_
  rw [exec_Assign_Name_used _ _ _ _ hsw]
  refine wpAny_bind (wpAny_standAt (wpAny_bind ?_))
  show wpAny _ X.A (do let _ ← comprehension (.ListComp elt [⟨.Name x px, iter, [cnd], 0⟩] scope pos) scope X.env _ (newList []) false (eval iter X.env) (some (assign (.Name y py) X.env))) _ _ s
  refine wpAny_bind (wpAny_mono (wpAny_comprehension_free (use := some (assign (.Name y py) X.env)) (Q := fun _ s' => SP X pins D0 .next s') rfl hs hclos hkind hnames (thn (hi pins s σ H _ I h) fun v s1 h1 => thn h1 fun itv s2 h2 => ?_)) (fun _ s' hq => wpAny_pure (wpAny_pure hq)) fun _ _ e => e)
  obtain ⟨it, fp, tn, J, H2, e, I2, T, st2, f2, h⟩ := h2
  subst e
  refine comp_coreI (R := fun D H' => gName i (.ref D) σ H' D0.nx) (RR := compPost (model X.prog X.w) X.A X.xe (some (assign (.Name y py) X.env)) (fun _ s' => SP X pins D0 .next s')) hc ht he hcell hkind hx hnd hfr hyc hrel hjs I2 T st2 f2 h ?_
  intro D C H' s' m f hn I' q
  refine wpAny_assign_Name (store_ok2 (v := V.ref D) I' hN hy (Or.inl hl) rfl (fun s'' I'' k'' => ?_) (Or.inr hl))
  refine ⟨m, ?_, fun h' sb => ⟨_, H', ?_, q⟩⟩
  · obtain ⟨b, sb, hb⟩ := k''
    refine hn.sameBut sb fun z => ?_
    rcases hb with hb | hb
    · exact f.2.1 (z.trans hb)
    · exact f.2.2.2.2.1 y b hb z.symm
  · exact I''.turned (t' := s''.toks) (fun b o hb e => sb.extBut b o hb e) f.1 f.2.1 f.2.2.2.1 f.2.2.2.2.1 f.2.2.2.2.2
theorem i_compI {H : Hp} {Q : VK} (h : wi σ H fun J H1 => ∀ D, H1 D = none → tCompBI J tc te (takeS js σ) D (fun H2 => Q (.ref D) H2) H1) : tCompI wi tc te js σ H Q := h
/-- over a range -/
theorem compI_range {lo : Int} {n : Nat} {D : Addr} {tc : TT} {te : TE} {fr : St} {R : Hp → Prop} {H1 : Hp} (Pv : Nat → Hp → Prop) (h0 : Pv 0 (upd H1 D (.lst [])))
    (hs : ∀ i H, i < n → Pv i H → tc (some (.int (lo + i)) :: fr) H fun b H4 => if b = true then te (some (.int (lo + i)) :: fr) H4 (fun y H5 => ∃ ys, H5 D = some (.lst ys) ∧ ys.length < sizeLine ∧ ∃ m', m' < n - i ∧ cW n Pv (i + 1) m' (upd H5 D (.lst (ys ++ [y])))) else ∃ m', m' < n - i ∧ cW n Pv (i + 1) m' H4)
    (hd : ∀ H, Pv n H → R H) : tCompBI (Itr lo n) tc te fr D R H1 := by
  refine ⟨cW n Pv, ⟨n, by simp, Nat.zero_le _, h0⟩, ?_⟩
  rintro i m H ⟨rfl, hi, p⟩
  by_cases hlt : i < n
  · refine .inr ⟨hlt, fun x H' y => ?_⟩
    obtain ⟨e, y⟩ := y
    subst e y
    exact hs i _ hlt p
  · have e : i = n := by omega
    subst e
    exact .inl ⟨Nat.le_refl _, hd H p⟩
theorem comp_skip {n i : Nat} {Pv : Nat → Hp → Prop} {H4 : Hp} (hi : i < n) (p : Pv (i + 1) H4) : ∃ m', m' < n - i ∧ cW n Pv (i + 1) m' H4 := ⟨n - (i + 1), by omega, rfl, hi, p⟩
end
end L2
/-! a def with defaults: they stand in a tuple at D -/
namespace L2
open PySem PySem.Spec PyProof.Rows
structure FunD (K : PySem.W.Frag) (x qual : Str) (st : Stmt) (D : Addr) (f : Addr) (fd : FuncData) : Prop where
  ex : ∃ (oc : Value) (od : Option Addr) (kV doc pm : Value) (an : Option Addr) (cdv ct : Value) (osl : Array (Option Value)),
    fd = PySem.W.fnOf x qual (defArgs st) (defBody st) (defScope st) (.ref D) kV doc pm an cdv ct ∧ K.lookup f = some ⟨oc, od, .func fd, osl⟩ ∧ PySem.W.codeIn K cdv qual = true
  kp : PySem.W.keepIn K (.ref f) = true
section
variable {P : Program} {w : World} {K : PySem.W.Frag} {mg : Str → Option Value} {base : Heap}
theorem FunD.ok {x qual : Str} {st : Stmt} {f D : Addr} {fd : FuncData} {N ps : List Str} {k : Nat} {sp : Sp} (F : FunD K x qual st D f fd) (S : FnScope N ps (defScope st)) (len : ∀ vs H Q E, sp vs H Q E → vs.length = ps.length)
    (hbody : ∀ (cdv : Value) (A : Around) (outer : List Env) (s : Shared) (H : Hp) (vs : List V) (Q : VK) (E : XK), Room k (A.deeper (envOfC qual (defScope st) s.heap.objs.size f cdv)) → sp vs H Q E →
      ∃ t, PSs (cxOf CX0 P w K mg base N qual (defScope st) f cdv A outer s H E).nox (defBody st) t ∧ t { nx := fun _ H' => Q .non H', rt := Q } (start N vs) H) : FnOk P w K mg base CX0 (k + 1) f fd ps sp := by
  obtain ⟨oc, od, kV, doc, pm, an, cdv, ct, osl, rfl, lk, hcd⟩ := F.ex
  refine fn_of lk hcd S len fun A outer s H vs Q E hr hsp => ?_
  obtain ⟨t, h, q⟩ := hbody cdv A outer s H vs Q E hr hsp
  exact ⟨t, h.nox, q⟩
theorem FunD.okE {x qual : Str} {st : Stmt} {f D : Addr} {fd : FuncData} {N ps : List Str} {k : Nat} {sp : Sp} (F : FunD K x qual st D f fd) (S : FnScope N ps (defScope st)) (len : ∀ vs H Q E, sp vs H Q E → vs.length = ps.length)
    (hbody : ∀ (cdv : Value) (A : Around) (outer : List Env) (s : Shared) (H : Hp) (vs : List V) (Q : VK) (E : XK), Room k (A.deeper (envOfC qual (defScope st) s.heap.objs.size f cdv)) → sp vs H Q E →
      ∃ t, PSs (cxOf (CXe P w) P w K mg base N qual (defScope st) f cdv A outer s H E) (defBody st) t ∧ t { nx := fun _ H' => Q .non H', rt := Q } (start N vs) H) : FnOk P w K mg base (CXe P w) (k + 1) f fd ps sp := by
  obtain ⟨oc, od, kV, doc, pm, an, cdv, ct, osl, rfl, lk, hcd⟩ := F.ex
  exact fn_of lk hcd S len fun A outer s H vs Q E hr hsp => hbody cdv A outer s H vs Q E hr hsp
/-- how its arguments bind, ds of the defaults filling up -/
theorem FunD.binds {x qual : Str} {st : Stmt} {f D : Addr} {fd : FuncData} {ps : List Str} {ds : List Value} {o : Obj} {its : Array Value} {n j : Nat} (hj : j + ds.length = ps.length) (F : FunD K x qual st D f fd) (hD : K.lookup D = some o) (ho : o.data = .seq its n)
    (h : ∀ (kV doc pm : Value) (an : Option Addr) (cdv ct : Value) (us : List Value), us.length = j →
      ∃ k : Option (Array Value) → Sem (List (Str × Value)), bindArgs (PySem.W.fnOf x qual (defArgs st) (defBody st) (defScope st) (.ref D) kV doc pm an cdv ct) ⟨us, []⟩ = (seqItems? (.ref D) >>= k) ∧ k (some its) = pure (ps.zip (us ++ ds))) : Binds K fd ps ds := by
  obtain ⟨oc, od, kV, doc, pm, an, cdv, ct, osl, rfl, lk, hcd⟩ := F.ex
  intro s us hK hl
  obtain ⟨k, h1, h2⟩ := h kV doc pm an cdv ct us (by rw [List.length_append] at hl; omega)
  exact BindsTo.of_defaults rfl (hK _ _ hD) ho h1 h2
end
end L2
namespace L2
open PySem PySem.Spec PyProof.Rows
end L2
namespace L2
open PySem PySem.Spec PyProof.Rows
end L2
namespace L2
open PySem PySem.Spec PyProof.Rows
/-! ### try with clauses that give the error no name, one behind another -/
section
variable {X : Cx} {body suite : List Stmt} {b₀ : Stmt} {tx n : Str} {np hpos pos : Pos} {D : Addr} {i : Nat} {tb : (St → XK) → TS} {ts : TS}
/-- what the clauses want of an error x of the class Ca -/
abbrev THs := Ends → St → Addr → Addr → Hp → Prop
end
section
variable {σ : St} {H : Hp} {nx : St → Hp → Prop} {rt : VK} {bk ct : St → Hp → Prop} {ts : TS}
end
end L2
namespace L2
open PySem PySem.Spec PyProof.Rows
/-! ### a comprehension that errors leave -/
section
variable {X : Cx} {pins : List (Addr × Obj)} {σ : St} {H : Hp} {s : Shared} {x T : Addr} {C : Value} {M : Model} {A : Around} {E : Value → Shared → Prop}
end
section
variable {X : Cx} {iter elt : Expr} {x : Str} {px pos : Pos} {scope : Scope} {te : TE} {wi : TI} {pins : List (Addr × Obj)} {σ : St}
end
section
variable {σ : St} {H : Hp} {Q : VK} {wi : TI} {te : (St → XK) → TE} {Ex : XK}
end
end L2
namespace L2
open PySem PySem.Spec PyProof.Rows
/-! ### clauses that name several classes, none of which takes the error; clauses with a name, in a chain -/
section
variable {M : Model} {h : Heap} {K : PySem.W.Frag}
end
section
variable {X : Cx} {suite : List Stmt} {b₀ : Stmt} {tx n : Str} {np hpos pos : Pos} {D : Addr} {i : Nat} {ts : TS}
end
section
variable {σ : St} {H : Hp} {ts : TS} {K : PySem.W.Frag} {Ca D : Addr} {tr : THs} {En : Ends} {i : Nat} {cs : List Addr}
end
end L2
/-! how a def lies in the text, as one fact: the def itself, how its arguments bind, where it is found -/
namespace L2
open PySem PySem.Spec PyProof.Rows
structure Dg (K : PySem.W.Frag) (x q : Str) (st : Stmt) (f : Addr) (fd : FuncData) (M : Prop) : Prop where
  F : Fun K x q st f fd
  m : M
structure Df (K : PySem.W.Frag) (x q : Str) (st : Stmt) (ps : List Str) (f : Addr) (fd : FuncData) (M : Prop) : Prop where
  F : Fun K x q st f fd
  B : Binds K fd ps []
  m : M
theorem lenS {α : Type} {n : Nat} {a : List α} (h : a.length = n + 1) : ∃ x r, a = x :: r ∧ r.length = n := by
  cases a with
  | nil => cases h
  | cons x r => exact ⟨x, r, rfl, Nat.succ.inj h⟩
abbrev Dgf (K : PySem.W.Frag) (mg : Str → Option Value) (x : Str) (st : Stmt) (f : Addr) (fd : FuncData) : Prop := Dg K x x st f fd (mg x = some (.ref f))
abbrev Dgm (K : PySem.W.Frag) (C : Addr) (x q : Str) (st : Stmt) (f : Addr) (fd : FuncData) : Prop := Dg K x q st f fd (Meth K C x f)
abbrev Dff (K : PySem.W.Frag) (mg : Str → Option Value) (x : Str) (st : Stmt) (ps : List Str) (f : Addr) (fd : FuncData) : Prop := Df K x x st ps f fd (mg x = some (.ref f))
abbrev Dfm (K : PySem.W.Frag) (C : Addr) (x q : Str) (st : Stmt) (ps : List Str) (f : Addr) (fd : FuncData) : Prop := Df K x q st ps f fd (Meth K C x f)
section
variable {K : PySem.W.Frag} {mg : Str → Option Value} {h : Heap} {x q : Str} {st : Stmt} {f C : Addr} {fd : FuncData} {M : Prop} {oc kV doc pm cdv ct : Value} {od an : Option Addr} {osl : Array (Option Value)}
theorem dgf_mk (X : K.In h) (G : h.Ns mainGlobals mg) (a : PySem.W.nsIn K mainGlobals x = some (some (.ref f))) (l : K.lookup f = some ⟨oc, od, .func (PySem.W.fnOf x x (defArgs st) (defBody st) (defScope st) .none kV doc pm an cdv ct), osl⟩)
    (c : PySem.W.codeIn K cdv x = true) (k : PySem.W.keepIn K (.ref f) = true) : Dgf K mg x st f (PySem.W.fnOf x x (defArgs st) (defBody st) (defScope st) .none kV doc pm an cdv ct) := ⟨fun_mk l c k, PySem.W.mg_of X G a⟩
theorem dgm_mk (a : PySem.W.findIn K (.ref C) x = some (some (.ref f))) (i : PySem.W.isFn K (.ref f) = true) (l : K.lookup f = some ⟨oc, od, .func (PySem.W.fnOf x q (defArgs st) (defBody st) (defScope st) .none kV doc pm an cdv ct), osl⟩)
    (c : PySem.W.codeIn K cdv q = true) (k : PySem.W.keepIn K (.ref f) = true) : Dgm K C x q st f (PySem.W.fnOf x q (defArgs st) (defBody st) (defScope st) .none kV doc pm an cdv ct) := ⟨fun_mk l c k, a, i, k⟩
theorem Dg.d1 {p0 : Str} (D : Dg K x q st f fd M) (h : ∀ (kV doc pm : Value) (an : Option Addr) (cdv ct : Value) (u0 : Value), bindArgs (PySem.W.fnOf x q (defArgs st) (defBody st) (defScope st) .none kV doc pm an cdv ct) ⟨[u0], []⟩ = pure [(p0, u0)]) : Df K x q st [p0] f fd M :=
  ⟨D.F, D.F.binds fun kV doc pm an cdv ct us hl => (by
    obtain ⟨u0, r0, rfl, k0⟩ := lenS hl
    obtain rfl := List.eq_nil_of_length_eq_zero k0
    exact h kV doc pm an cdv ct u0), D.m⟩
theorem Dg.d2 {p0 p1 : Str} (D : Dg K x q st f fd M) (h : ∀ (kV doc pm : Value) (an : Option Addr) (cdv ct : Value) (u0 u1 : Value), bindArgs (PySem.W.fnOf x q (defArgs st) (defBody st) (defScope st) .none kV doc pm an cdv ct) ⟨[u0, u1], []⟩ = pure [(p0, u0), (p1, u1)]) : Df K x q st [p0, p1] f fd M :=
  ⟨D.F, D.F.binds fun kV doc pm an cdv ct us hl => (by
    obtain ⟨u0, r0, rfl, k0⟩ := lenS hl; obtain ⟨u1, r1, rfl, k1⟩ := lenS k0
    obtain rfl := List.eq_nil_of_length_eq_zero k1
    exact h kV doc pm an cdv ct u0 u1), D.m⟩
theorem Dg.d3 {p0 p1 p2 : Str} (D : Dg K x q st f fd M) (h : ∀ (kV doc pm : Value) (an : Option Addr) (cdv ct : Value) (u0 u1 u2 : Value), bindArgs (PySem.W.fnOf x q (defArgs st) (defBody st) (defScope st) .none kV doc pm an cdv ct) ⟨[u0, u1, u2], []⟩ = pure [(p0, u0), (p1, u1), (p2, u2)]) : Df K x q st [p0, p1, p2] f fd M :=
  ⟨D.F, D.F.binds fun kV doc pm an cdv ct us hl => (by
    obtain ⟨u0, r0, rfl, k0⟩ := lenS hl; obtain ⟨u1, r1, rfl, k1⟩ := lenS k0; obtain ⟨u2, r2, rfl, k2⟩ := lenS k1
    obtain rfl := List.eq_nil_of_length_eq_zero k2
    exact h kV doc pm an cdv ct u0 u1 u2), D.m⟩
theorem Dg.d4 {p0 p1 p2 p3 : Str} (D : Dg K x q st f fd M) (h : ∀ (kV doc pm : Value) (an : Option Addr) (cdv ct : Value) (u0 u1 u2 u3 : Value), bindArgs (PySem.W.fnOf x q (defArgs st) (defBody st) (defScope st) .none kV doc pm an cdv ct) ⟨[u0, u1, u2, u3], []⟩ = pure [(p0, u0), (p1, u1), (p2, u2), (p3, u3)]) : Df K x q st [p0, p1, p2, p3] f fd M :=
  ⟨D.F, D.F.binds fun kV doc pm an cdv ct us hl => (by
    obtain ⟨u0, r0, rfl, k0⟩ := lenS hl; obtain ⟨u1, r1, rfl, k1⟩ := lenS k0; obtain ⟨u2, r2, rfl, k2⟩ := lenS k1; obtain ⟨u3, r3, rfl, k3⟩ := lenS k2
    obtain rfl := List.eq_nil_of_length_eq_zero k3
    exact h kV doc pm an cdv ct u0 u1 u2 u3), D.m⟩
theorem Dg.d5 {p0 p1 p2 p3 p4 : Str} (D : Dg K x q st f fd M) (h : ∀ (kV doc pm : Value) (an : Option Addr) (cdv ct : Value) (u0 u1 u2 u3 u4 : Value), bindArgs (PySem.W.fnOf x q (defArgs st) (defBody st) (defScope st) .none kV doc pm an cdv ct) ⟨[u0, u1, u2, u3, u4], []⟩ = pure [(p0, u0), (p1, u1), (p2, u2), (p3, u3), (p4, u4)]) : Df K x q st [p0, p1, p2, p3, p4] f fd M :=
  ⟨D.F, D.F.binds fun kV doc pm an cdv ct us hl => (by
    obtain ⟨u0, r0, rfl, k0⟩ := lenS hl; obtain ⟨u1, r1, rfl, k1⟩ := lenS k0; obtain ⟨u2, r2, rfl, k2⟩ := lenS k1; obtain ⟨u3, r3, rfl, k3⟩ := lenS k2; obtain ⟨u4, r4, rfl, k4⟩ := lenS k3
    obtain rfl := List.eq_nil_of_length_eq_zero k4
    exact h kV doc pm an cdv ct u0 u1 u2 u3 u4), D.m⟩
end
/-- what is asked of a class of the text -/
structure KC (K : PySem.W.Frag) (C : Addr) : Prop where
  pg : PySem.W.plainGet K C Str.empty = true
  hd : PySem.W.hasDictIn K C = true
  po : PySem.W.plainOver K C = true
  sa : PySem.W.findIn K (.ref C) "__setattr__" = some (some (.builtin "object.__setattr__"))
  mk' : PySem.W.makesIn K C = true
  kc : PySem.W.keepIn K (.ref C) = true
theorem KC.cls {K : PySem.W.Frag} {C : Addr} (h : KC K C) : Cls K C := ⟨h.pg, h.hd, h.po, h.sa⟩
abbrev GV (K : PySem.W.Frag) (x : Str) (v : Value) : Prop := PySem.W.nsIn K mainGlobals x = some (some v)
abbrev GZ (K : PySem.W.Frag) (x : Str) : Prop := PySem.W.nsIn K mainGlobals x = some none
abbrev FN (K : PySem.W.Frag) (C : Addr) (x : Str) : Prop := PySem.W.findIn K (.ref C) x = some none
section
variable {K : PySem.W.Frag} {H : Hp} {p C dx : Addr} {fs fs' : List (Str × V)} {v : V} {nm : Str} {P : V → Prop} {nx : St → Hp → Prop} {σ : St}
/-- a field read, a field stored, a method called: what the walk meets -/
abbrev RdX (K : PySem.W.Frag) (H : Hp) (p : Addr) (nm : Str) (P : V → Prop) : Prop := ∃ a' C dx fs v, V.ref p = .ref a' ∧ H a' = some (.ins C dx fs) ∧ Cls K C ∧ NoAttr K C nm ∧ fs.lookup nm = some v ∧ P v
abbrev StX (K : PySem.W.Frag) (H : Hp) (p : Addr) (nm : Str) (v : V) (nx : St → Hp → Prop) (σ : St) : Prop := ∃ a' C dx fs, V.ref p = .ref a' ∧ H a' = some (.ins C dx fs) ∧ Cls K C ∧ NoAttr K C nm ∧ fs.length < 1000 ∧ After nx σ (upd H a' (.ins C dx (putF nm v fs)))
abbrev MtX (H : Hp) (p C : Addr) (nm : Str) (R : Prop) : Prop := ∃ a dx fs, V.ref p = .ref a ∧ H a = some (.ins C dx fs) ∧ fs.lookup nm = none ∧ R
theorem rdX (hp : H p = some (.ins C dx fs)) (c : Cls K C) (n : NoAttr K C nm) (l : fs.lookup nm = some v) (h : P v) : RdX K H p nm P := ⟨p, C, dx, fs, v, rfl, hp, c, n, l, h⟩
theorem stX (hp : H p = some (.ins C dx fs)) (c : Cls K C) (n : NoAttr K C nm) (l : fs.length < 1000) (e : putF nm v fs = fs') (h : After nx σ (upd H p (.ins C dx fs'))) : StX K H p nm v nx σ := ⟨p, C, dx, fs, rfl, hp, c, n, l, by rw [e]; exact h⟩
theorem lt0 : ([] : List (Str × V)).length < 1000 := by show 0 < 1000; decide
theorem lt1 {a : Str × V} : [a].length < 1000 := by show 1 < 1000; decide
theorem lt2 {a b : Str × V} : [a, b].length < 1000 := by show 2 < 1000; decide
theorem lt3 {a b c : Str × V} : [a, b, c].length < 1000 := by show 3 < 1000; decide
theorem lt4 {a b c d : Str × V} : [a, b, c, d].length < 1000 := by show 4 < 1000; decide
theorem lt5 {a b c d e : Str × V} : [a, b, c, d, e].length < 1000 := by show 5 < 1000; decide
theorem lt6 {a b c d e f : Str × V} : [a, b, c, d, e, f].length < 1000 := by show 6 < 1000; decide
theorem lk_no {nm : Str} : ∀ {fs : List (Str × V)}, nm ∉ fs.map (·.1) → fs.lookup nm = none
  | [], _ => rfl
  | (g, v) :: r, h => lk_tl (fun e => h (by rw [e]; exact List.mem_cons_self)) (lk_no fun m => h (List.mem_cons_of_mem _ m))
theorem mtX {R : Prop} {N : List Str} (hp : H p = some (.ins C dx fs)) (k : fs.map (·.1) = N) (n : nm ∉ N) (h : R) : MtX H p C nm R := ⟨p, dx, fs, rfl, hp, lk_no (by rw [k]; exact n), h⟩
theorem scMk {N P : List Str} {sc : Scope} (h : (sc.kind = .function ∧ sc.isCoroutine = false ∧ sc.isGenerator = false) ∧ N.Nodup ∧ N.take P.length = P ∧ (∀ x ∈ P, sc.names.lookup x = some .local ∨ sc.names.lookup x = some .cell) ∧ ∀ y ∈ sc.names, y.2 ≠ .free) : FnScope N P sc := ⟨h.1.1, h.1.2.1, h.1.2.2, h.2.1, h.2.2.1, h.2.2.2.1, h.2.2.2.2⟩
end
end L2
/-! for key, value in d.items(), where the keys of d are tuples: the dict is known to the object while the loop walks it -/
namespace L2
open PySem PySem.Spec PyProof.Rows
section
variable {prog : Program} {w : World} {A : Around} {E : Value → Shared → Prop} {s : Shared} {d : Addr} {od : Obj} {es : Array DictEntry} {ep : Nat}
end
end L2
namespace L2
open PySem PySem.Spec PyProof.Rows
/-- the pairs of the dict at d, which is the object o -/
def Iti (o : Obj) (d : Addr) (kvs : List (List Key × V)) : It :=
  ⟨fun i H => H d = some (.frz o (.dT kvs)) ∧ i < kvs.length,
   fun i H x H' => ∃ t kt key v, x = .ref t ∧ H t = none ∧ H' = upd H t (.tup [.ref kt, v]) ∧ kvs[i]? = some (key, v) ∧ H kt = some (.tup (key.map kV)),
   fun i H => H d = some (.frz o (.dT kvs)) ∧ kvs.length ≤ i⟩
theorem paired_at {α β : Type} {F : α → β → Prop} {l₁ : List α} {l₂ : List β} (h : Paired F l₁ l₂) : ∀ {i : Nat} {y : β}, l₂[i]? = some y → ∃ x, l₁[i]? = some x ∧ F x y := by
  induction h with
  | nil => intro i y e; cases e
  | cons r t ih =>
    intro i y e
    cases i with
    | zero => cases e; exact ⟨_, rfl, r⟩
    | succ j => exact ih e
section
variable {X : Cx}
def iItems (to : TE) : TI := fun σ H R => to σ H fun x H1 => ∃ d kvs, x = .ref d ∧ H1 d = some (.dT kvs) ∧ ∀ o, R (Iti o d kvs) (upd H1 d (.frz o (.dT kvs)))
theorem i_iItems {to : TE} {σ : St} {H : Hp} {R : It → Hp → Prop} (h : to σ H fun x H1 => ∃ d kvs, x = .ref d ∧ H1 d = some (.dT kvs) ∧ ∀ o, R (Iti o d kvs) (upd H1 d (.frz o (.dT kvs)))) : iItems to σ H R := h
/-- a dict that was walked is let go -/
def thawD (H : Hp) (D : Ends) : Ends := { D with nx := fun σ' H' => ∃ d o u, (∀ o u, H d ≠ some (.frz o u)) ∧ H' d = some (.frz o u) ∧ D.nx σ' (upd H' d u) }
def tThaw (t : TS) : TS := fun D σ H => t (thawD H D) σ H
theorem i_thaw {t : TS} {D : Ends} {σ : St} {H : Hp} (h : t (thawD H D) σ H) : tThaw t D σ H := h
end
end L2
/-! the signs of a text, in a loop and in a comprehension -/
namespace L2
open PySem PySem.Spec PyProof.Rows
def Its (x : Str) : It := ⟨fun i _ => i < x.cps.size, fun i H v H' => H' = H ∧ ∃ c, x.cps[i]? = some c ∧ v = .str ⟨#[c]⟩, fun i _ => i = x.cps.size⟩
section
variable {X : Cx} {tg : Expr}
def iStr (tl : TE) : TI := fun σ H R => tl σ H fun v H1 => ∃ x, v = .str x ∧ R (Its x) H1
theorem i_iStr {tl : TE} {σ : St} {H : Hp} {R : It → Hp → Prop} (h : tl σ H fun v H1 => ∃ x, v = .str x ∧ R (Its x) H1) : iStr tl σ H R := h
end
end L2
/-! the keys and the values of a dict whose keys are numbers and texts: in a loop, in a comprehension, as a list -/
namespace L2
open PySem PySem.Spec PyProof.Rows
/-- the keys of the dict at d, which is the object o; its values -/
def Itk (o : Obj) (d : Addr) (kvs : List (Key × V)) : It :=
  ⟨fun i H => H d = some (.frz o (.dK kvs)) ∧ i < kvs.length, fun i H x H' => H' = H ∧ ∃ k v, kvs[i]? = some (k, v) ∧ x = kV k, fun i H => H d = some (.frz o (.dK kvs)) ∧ kvs.length ≤ i⟩
def Itv (o : Obj) (d : Addr) (kvs : List (Key × V)) : It :=
  ⟨fun i H => H d = some (.frz o (.dK kvs)) ∧ i < kvs.length, fun i H x H' => H' = H ∧ ∃ k, kvs[i]? = some (k, x), fun i H => H d = some (.frz o (.dK kvs)) ∧ kvs.length ≤ i⟩
theorem KV.get {kvs : List (Key × V)} {vs : List (Key × Value)} (r : KV kvs vs) {i : Nat} {k : Key} {u : Value} (h : vs[i]? = some (k, u)) : ∃ v, kvs[i]? = some (k, v) ∧ RelV v u := by
  obtain ⟨⟨k', v⟩, e, e1, e2⟩ := paired_at r h
  have e1 : k' = k := e1
  exact ⟨v, by rw [e, e1], e2⟩
section
variable {X : Cx} {tg : Expr}
def iKeys (to : TE) : TI := fun σ H R => to σ H fun x H1 => ∃ d kvs, x = .ref d ∧ H1 d = some (.dK kvs) ∧ ∀ o, R (Itk o d kvs) (upd H1 d (.frz o (.dK kvs)))
def iVals (to : TE) : TI := fun σ H R => to σ H fun x H1 => ∃ d kvs, x = .ref d ∧ H1 d = some (.dK kvs) ∧ ∀ o, R (Itv o d kvs) (upd H1 d (.frz o (.dK kvs)))
theorem i_iKeys {to : TE} {σ : St} {H : Hp} {R : It → Hp → Prop} (h : to σ H fun x H1 => ∃ d kvs, x = .ref d ∧ H1 d = some (.dK kvs) ∧ ∀ o, R (Itk o d kvs) (upd H1 d (.frz o (.dK kvs)))) : iKeys to σ H R := h
theorem i_iVals {to : TE} {σ : St} {H : Hp} {R : It → Hp → Prop} (h : to σ H fun x H1 => ∃ d kvs, x = .ref d ∧ H1 d = some (.dK kvs) ∧ ∀ o, R (Itv o d kvs) (upd H1 d (.frz o (.dK kvs)))) : iVals to σ H R := h
/-- a dict that an expression has walked is let go -/
def tThawE (t : TE) : TE := fun σ H Q => t σ H fun v H' => ∃ d o u, (∀ o u, H d ≠ some (.frz o u)) ∧ H' d = some (.frz o u) ∧ Q v (upd H' d u)
theorem i_thawE {t : TE} {σ : St} {H : Hp} {Q : VK} (h : t σ H fun v H' => ∃ d o u, (∀ o u, H d ≠ some (.frz o u)) ∧ H' d = some (.frz o u) ∧ Q v (upd H' d u)) : tThawE t σ H Q := h
end
/-! ### None in a list of lists and None -/
theorem i_dnewK {σ : St} {H : Hp} {Q : VK} (h : ∀ p, H p = none → Q (.ref p) (upd H p (.dK []))) : tDNewK σ H Q := h
theorem i_dpop1 {td ty : TE} {σ : St} {H : Hp} {Q : VK} (h : td σ H fun x H1 => ∃ a, x = .ref a ∧ IsD H1 a ∧ ty σ H1 fun y H2 => ∃ kvs k v, H2 a = some (.dK kvs) ∧ y = kV k ∧ valV kvs k = some v ∧ Q v (upd H2 a (.dK (dropK kvs k)))) : tDPop1 td ty σ H Q := h
end L2
/-! a part of a text, a sign of a text -/
namespace L2
open PySem PySem.Spec PyProof.Rows
section
variable {X : Cx}
end
end L2
/-! set(..) of a list of numbers and how many it has; list(range(n)); a text told several times -/
namespace L2
open PySem PySem.Spec PyProof.Rows
section
variable {X : Cx}
def SetAt (p : Addr) (n : Nat) (h : Heap) : Prop := ∃ o es ep t, h.get? p = some o ∧ o.ExactSet ∧ o.data = .set es ep t ∧ t.fits es.size = true ∧ es.size < scanBound ∧ es.size = n
theorem SetAt.st {p : Addr} {n : Nat} {h1 h2 : Heap} (s : SetAt p n h1) (k : ∀ o, h1.get? p = some o → h2.get? p = some o) : SetAt p n h2 := by
  obtain ⟨o, es, ep, t, e, r⟩ := s
  exact ⟨o, es, ep, t, k _ e, r⟩
end
end L2
namespace L2
open PySem PySem.Spec PyProof.Rows
/-! ### a dict whose keys are pairs of a number and a tuple of numbers -/
section
variable {prog : Program} {w : World}
def IsNest (prog : Program) (w : World) (h : Heap) (k : Int × List Int) (a : Addr) : Prop :=
  ∃ o n t b, h.get? a = some o ∧ o.cls = .type "tuple" ∧ o.data = .seq #[.int k.1 t, .ref b] n ∧ IsTupleKey (intKind prog w) h k.2 b
def nHash (k : Int × List Int) : Int := reduceHash (Builtin.Tuple.tupleHashOf [hashInt k.1, reduceHash (Builtin.Tuple.tupleHashOf (k.2.map hashInt))])
theorem IsNest.typeIs {s : Shared} {k : Int × List Int} {a : Addr} (x : IsNest prog w s.heap k a) : s.TypeIs (.ref a) "tuple" := let ⟨o, _, _, _, ho, hc, _⟩ := x; ⟨o, ho, hc⟩
theorem IsNest.inj {h : Heap} {a : Addr} {x y : Int × List Int} (hx : IsNest prog w h x a) (hy : IsNest prog w h y a) : x = y := by
  obtain ⟨o, n, t, b, ho, _, hd, hi⟩ := hx
  obtain ⟨o', n', t', b', ho', _, hd', hi'⟩ := hy
  obtain rfl : o = o' := Option.some.inj (ho.symm.trans ho')
  rw [hd] at hd'
  injection hd' with h1 _
  have h2 := congrArg Array.toList h1
  injection h2 with h3 h4
  injection h4 with h5 _
  injection h3 with h3 _
  injection h5 with h5
  subst h5
  exact Prod.ext h3 (hi.inj hi')
theorem IsNest.keeps {h h' : Heap} {k : Int × List Int} {a d : Addr} {o : Obj} {es ep} (x : IsNest prog w h k a) (ho : h.get? d = some o) (hd : o.data = .dict es ep) (hs : Heap.SameBut d h h') : IsNest prog w h' k a := by
  obtain ⟨o', n, t, b, ho', hc, hd', hi⟩ := x
  have hne : a ≠ d := by
    rintro rfl
    obtain rfl : o' = o := Option.some.inj (ho'.symm.trans ho)
    rw [hd] at hd'; exact nomatch hd'
  exact ⟨o', n, t, b, (hs.2 a hne).trans ho', hc, hd', hi.keeps ho hd hs⟩
variable {A : Around} {E : Value → Shared → Prop} {s : Shared}
theorem nest_hash {k : Int × List Int} {a : Addr} {Q : Int → Shared → Prop} (hu : A.units + 1 < cLine) (hk : IsNest prog w s.heap k a) (h : Q (nHash k) { s with toks := s.toks + (k.2.length + 3) }) :
    wpAny (model prog w) A (pyHash (.ref a)) Q E s := by
  have hT := hk.typeIs
  obtain ⟨o, n, t, b, ho, _, hd, hi⟩ := hk
  unfold pyHash
  first | unfold pyHashByItsType | skip
  first | refine wpAny_bind (wpAny_cRoomFor_or (.inr (show A.units < cLine by omega)) ?_) | skip
  refine wpAny_bind (wpAny_specialOf hT F.slot_tuple_hash.lookup ?_)
  show wpAny _ _ (if (some (Value.builtin "tuple.__hash__") == some Value.none) = true then _ else _) Q E s
  rw [if_neg (by rw [beq_builtin_none]; exact Bool.false_ne_true)]
  refine wpAny_bind (wpAny_specialOf hT F.slot_tuple_hash.lookup ?_)
  show wpAny _ _ (callSpecialIfBoundUnlessNone? (.ref a) "__hash__" _ >>= _) Q E s
  refine wpAny_bind (wpAny_callSpecialIfBoundUnlessNone?_slot hT F.slot_tuple_hash (wpAny_call_entry F.slot_tuple_hash hT F.entry_tuple_hash ?_ (F.args_tuple_hash_1 _)))
  show wpAny _ _ (Builtin.Tuple.tupleItemsOf (.ref a) >>= _) _ _ s
  refine wpAny_bind (wpAny_tupleItemsOf ho hd ?_)
  refine wpAny_bind ?_
  rw [← Array.forIn_toList]
  refine wpAny_forIn_list _
    (fun rest (c : Array Int) s' => (rest = [.int k.1 t, .ref b] ∧ c.toList = [] ∧ s' = s) ∨ (rest = [.ref b] ∧ c.toList = [hashInt k.1] ∧ s' = { s with toks := s.toks + 1 }) ∨
      (rest = [] ∧ c.toList = [hashInt k.1, tupleKeyHash (intKind prog w) k.2] ∧ s' = { s with toks := s.toks + (k.2.length + 2) }))
    _ ?_ ?_ _ _ (.inl ⟨rfl, rfl, rfl⟩)
  · rintro x rest c s' (⟨e, hb, rfl⟩ | ⟨e, hb, rfl⟩ | ⟨e, _⟩)
    · cases e
      refine wpAny_bind (wpAny_pyHash_int ?_)
      first
        | exact wpAny_pure (.inr (.inl ⟨rfl, by simp [hb], rfl⟩))
        | exact wpAny_bind (wpAny_pure (wpAny_pure (.inr (.inl ⟨rfl, by simp [hb], rfl⟩))))
    · cases e
      refine wpAny_bind (wpAny_pyHash_tuple (knd := intKind prog w) (ks := k.2) hu hi ?_)
      first
        | exact wpAny_pure (.inr (.inr ⟨rfl, by simp [hb], by simp only [Nat.add_assoc]; congr 2; omega⟩))
        | exact wpAny_bind (wpAny_pure (wpAny_pure (.inr (.inr ⟨rfl, by simp [hb], by simp only [Nat.add_assoc]; congr 2; omega⟩))))
    · cases e
  · rintro c s' (⟨e, _⟩ | ⟨e, _⟩ | ⟨_, hb, rfl⟩)
    · cases e
    · cases e
    show wpAny _ _ (retInt (Builtin.Tuple.tupleHashOf c.toList)) _ _ _
    rw [hb]
    refine wpAny_ret_mkInt ?_
    show wpAny _ _ (if (decide (-(2 : Int) ^ 63 ≤ Builtin.Tuple.tupleHashOf [hashInt k.1, tupleKeyHash (intKind prog w) k.2]) && decide (Builtin.Tuple.tupleHashOf [hashInt k.1, tupleKeyHash (intKind prog w) k.2] < 2 ^ 63)) = true then _ else _) Q E _
    have h : Q (reduceHash (Builtin.Tuple.tupleHashOf [hashInt k.1, tupleKeyHash (intKind prog w) k.2])) { s with toks := s.toks + (k.2.length + 3) } := h
    unfold reduceHash at h
    by_cases hr : (decide (-(2 : Int) ^ 63 ≤ Builtin.Tuple.tupleHashOf [hashInt k.1, tupleKeyHash (intKind prog w) k.2]) && decide (Builtin.Tuple.tupleHashOf [hashInt k.1, tupleKeyHash (intKind prog w) k.2] < 2 ^ 63)) = true
    · rw [if_pos hr]
      rw [if_pos hr] at h
      exact wpAny_pure (by simpa [Nat.add_assoc] using h)
    · rw [if_neg hr]
      rw [if_neg hr] at h
      exact wpAny_bind (wpAny_rule (wpAny_pure (by simpa [Nat.add_assoc] using h)))
theorem nest_eq_tree {x y : Int × List Int} {a b : Addr} {P : Fin → Shared → Prop} (hu : A.units < cLine) (hx : IsNest prog w s.heap x a) (hy : IsNest prog w s.heap y b) (h : P (.done (.ret (.bool (decide (x = y))))) s) :
    wpAny (model prog w) A (Builtin.«tuple.__eq__» ⟨[.ref a, .ref b], []⟩) P E s := by
  have hTb := hy.typeIs
  obtain ⟨oa, na, ta, ca, hoa, _, hda, hia⟩ := hx
  obtain ⟨ob, nb, tb, cb, hob, _, hdb, hib⟩ := hy
  show wpAny _ _ (isInstance (.ref b) (.type "tuple") >>= _) _ _ s
  refine wpAny_bind (wpAny_isInstance hTb isSubtype_tuple_tuple ?_)
  simp only [Bool.not_true, Bool.false_eq_true, if_false]
  refine wpAny_bind (wpAny_tupleItemsOf hoa hda ?_)
  refine wpAny_bind (wpAny_tupleItemsOf hob hdb ?_)
  refine wpAny_bind ?_
  refine wpAny_forIn_list _
    (fun rest r s' => r.1 = none ∧ s' = s ∧ ((rest = [(.int x.1 ta, .int y.1 tb), (.ref ca, .ref cb)]) ∨ (x.1 = y.1 ∧ rest = [(.ref ca, .ref cb)]) ∨ (x = y ∧ rest = [])))
    _ ?_ ?_ _ _ ⟨rfl, rfl, .inl rfl⟩
  · rintro ⟨u, v⟩ rest r s' ⟨hr, rfl, e | ⟨e1, e⟩ | ⟨_, e⟩⟩
    · cases e
      refine wpAny_bind (wpAny_eqBool_int ?_)
      by_cases hk : x.1 = y.1
      · rw [beq_iff_eq.mpr hk]
        simp only [Bool.not_true, Bool.false_eq_true, if_false]
        exact wpAny_pure ⟨rfl, rfl, .inr (.inl ⟨hk, by trivial⟩)⟩
      · rw [beq_eq_false_iff_ne.mpr hk]
        simp only [Bool.not_false, if_true]
        rw [decide_eq_false (fun z : x = y => hk (congrArg Prod.fst z))] at h
        exact wpAny_bind (wpAny_pure (wpAny_pure (wpAny_pure h)))
    · cases e
      refine wpAny_bind (wpAny_eqBool_tuple (knd := intKind prog w) hu hia hib ?_)
      by_cases hk : x.2 = y.2
      · rw [decide_eq_true hk]
        simp only [Bool.not_true, Bool.false_eq_true, if_false]
        exact wpAny_pure ⟨rfl, rfl, .inr (.inr ⟨Prod.ext e1 hk, by trivial⟩)⟩
      · rw [decide_eq_false hk]
        simp only [Bool.not_false, if_true]
        rw [decide_eq_false (fun z : x = y => hk (congrArg Prod.snd z))] at h
        exact wpAny_bind (wpAny_pure (wpAny_pure (wpAny_pure h)))
    · cases e
  · rintro ⟨r1, r2⟩ s' ⟨hr, rfl, e | ⟨_, e⟩ | ⟨hk, _⟩⟩
    · cases e
    · cases e
    · simp only at hr
      subst hr
      rw [decide_eq_true hk] at h
      exact wpAny_pure h
theorem nest_eq {x y : Int × List Int} {a b : Addr} {Q : Bool → Shared → Prop} (hu : A.units + 1 < cLine) (hx : IsNest prog w s.heap x a) (hy : IsNest prog w s.heap y b) (h : Q (decide (x = y)) s) :
    wpAny (model prog w) A (eqBool (.ref a) (.ref b)) Q E s := by
  unfold eqBool
  try with_reducible refine wpAny_holding ?_
  show wpAny _ _ (if (Value.ref a == Value.ref b) = true then _ else _) Q E s
  by_cases hab : (Value.ref a == Value.ref b) = true
  · rw [if_pos hab]
    have e : a = b := by have := eq_of_beq hab; injection this
    subst e
    obtain rfl := hx.inj hy
    exact wpAny_bind (wpAny_rule (wpAny_pure (by simpa using h)))
  · rw [if_neg hab]
    exact wpAny_bind (wpAny_richCompare_same_room (op := .Eq) hx.typeIs hy.typeIs F.slot_tuple_eq
      (wpAny_call_entry F.slot_tuple_eq hx.typeIs F.entry_tuple_eq (nest_eq_tree hu hx hy ⟨_, rfl, (fun e => nomatch e), wpAny_truthy_bool h⟩) (F.args_tuple_eq_2 _ _)) (show A.units < cLine by omega))
theorem quiet_tup {ks : List Int} {a : Addr} {m : Nat} {Q : Bool → Shared → Prop} (hk : IsTupleKey (intKind prog w) s.heap ks a) (h : Q true s) : wpAny (model prog w) A (eqIsQuiet (m + 1) (.ref a)) Q E s := by
  have hT := hk.typeIs
  obtain ⟨o, items, n, ho, _, hd, hi⟩ := hk
  unfold eqIsQuiet
  refine wpAny_bind (wpAny_specialOf hT F.slot_tuple_eq.lookup ?_)
  show wpAny _ _ (isInstance (.ref a) (.type "tuple") >>= _) _ _ s
  refine wpAny_bind (wpAny_isInstance hT isSubtype_tuple_tuple ?_)
  simp only [Bool.not_true, Bool.false_eq_true, if_false]
  refine wpAny_bind (wpAny_seqItems ho hd ?_)
  refine wpAny_bind ?_
  show wpAny _ _ (forIn items _ _) _ _ s
  rw [← Array.forIn_toList]
  refine wpAny_forIn_list _ (fun rest r s' => r.1 = none ∧ s' = s ∧ ∀ v ∈ rest, carriedByValue v = true) _ ?_ ?_ _ _ ⟨rfl, rfl, hi.byValue⟩
  · rintro v rest r s' ⟨hr, rfl, hall⟩
    rw [eqIsQuiet_byValue _ (hall v List.mem_cons_self)]
    refine wpAny_bind (wpAny_pure ?_)
    simp only [Bool.not_true, Bool.false_eq_true, if_false]
    exact wpAny_pure ⟨rfl, rfl, fun u hu' => hall u (List.mem_cons_of_mem _ hu')⟩
  · rintro ⟨r1, r2⟩ s' ⟨hr, rfl, _⟩
    simp only at hr
    subst hr
    exact wpAny_pure h
theorem nest_quiet {k : Int × List Int} {a : Addr} {Q : Bool → Shared → Prop} (hk : IsNest prog w s.heap k a) (h : Q true s) : wpAny (model prog w) A (eqIsQuiet 8 (.ref a)) Q E s := by
  have hT := hk.typeIs
  obtain ⟨o, n, t, b, ho, _, hd, hi⟩ := hk
  unfold eqIsQuiet
  refine wpAny_bind (wpAny_specialOf hT F.slot_tuple_eq.lookup ?_)
  show wpAny _ _ (isInstance (.ref a) (.type "tuple") >>= _) _ _ s
  refine wpAny_bind (wpAny_isInstance hT isSubtype_tuple_tuple ?_)
  simp only [Bool.not_true, Bool.false_eq_true, if_false]
  refine wpAny_bind (wpAny_seqItems ho hd ?_)
  refine wpAny_bind ?_
  show wpAny _ _ (forIn (#[.int k.1 t, .ref b] : Array Value) _ _) _ _ s
  rw [← Array.forIn_toList]
  refine wpAny_forIn_list _ (fun rest r s' => r.1 = none ∧ s' = s ∧ (rest = [.int k.1 t, .ref b] ∨ rest = [.ref b] ∨ rest = [])) _ ?_ ?_ _ _ ⟨rfl, rfl, .inl rfl⟩
  · rintro v rest r s' ⟨hr, rfl, e | e | e⟩
    · cases e
      rw [eqIsQuiet_byValue _ rfl]
      refine wpAny_bind (wpAny_pure ?_)
      simp only [Bool.not_true, Bool.false_eq_true, if_false]
      exact wpAny_pure ⟨rfl, rfl, .inr (.inl (by trivial))⟩
    · cases e
      refine wpAny_bind (quiet_tup hi ?_)
      simp only [Bool.not_true, Bool.false_eq_true, if_false]
      exact wpAny_pure ⟨rfl, rfl, .inr (.inr (by trivial))⟩
    · cases e
  · rintro ⟨r1, r2⟩ s' ⟨hr, rfl, _⟩
    simp only at hr
    subst hr
    exact wpAny_pure h
def nestKind (prog : Program) (w : World) : HeapKind prog w (Int × List Int) where
  is := IsNest prog w
  hash := nHash
  draws := fun k => k.2.length + 3
  room := fun A => A.units + 1 < cLine
  inj := fun hx hy => hx.inj hy
  keeps := fun x ho hd hs => x.keeps ho hd hs
  pyHash := fun hu hk h => nest_hash hu hk h
  eqBool := fun hu hx hy h => nest_eq hu hx hy h
  quiet := fun hk h => nest_quiet hk h
end
abbrev NX := (Int × List Int) × Addr × Addr
def nV (x : NX) : (Int × List Int) × Addr × Value := (x.1, x.2.1, .ref x.2.2)
def nEnt (x : NX) : DictEntry := ⟨nHash x.1, .ref x.2.1, .ref x.2.2⟩
/-- such a dict: its keys, where they lie, and what lies at them -/
def ND (a : Addr) (xs : List NX) : HO := .ext fun h => (a == sysModules) = false ∧ ∃ o es ep, h.get? a = some o ∧ o.ExactDict ∧ o.data = .dict es ep ∧ es.toList = xs.map nEnt
/-- a pair of a number and a tuple of numbers -/
def NKy (H : Hp) (p : Addr) (k : Int × List Int) : Prop := ∃ b, H p = some (.tup [.int k.1, .ref b]) ∧ H b = some (.tup (k.2.map V.int))
structure NDt (H : Hp) (a : Addr) (xs : List NX) : Prop where
  o : H a = some (ND a xs)
  k : ∀ x ∈ xs, NKy H x.2.1 x.1
  n : (xs.map (·.1)).Nodup
  l : xs.length < sizeLine
def nAt (xs : List NX) (k : Int × List Int) : Option Addr := (xs.find? fun x => decide (x.1 = k)).map (·.2.2)
theorem nAt_atKey (k : Int × List Int) : ∀ xs : List NX, (atKey (xs.map nV) k).map (·.2) = (nAt xs k).map Value.ref
  | [] => rfl
  | x :: r => by
    have ih := nAt_atKey k r
    unfold atKey nAt at ih ⊢
    rw [List.map_cons, List.find?_cons, List.find?_cons]
    show Option.map _ (Option.map _ (match decide (x.1 = k) with | true => some (nV x) | false => _)) = _
    cases decide (x.1 = k) with
    | true => rfl
    | false => exact ih
section
variable {X : Cx} {pins : List (Addr × Obj)} {σ : St} {H : Hp} {s : Shared} {a p q : Addr} {xs : List NX} {k : Int × List Int} {A : Around} {E : Value → Shared → Prop}
theorem nky_is (I : Inv X pins σ H s) (h : NKy H p k) : (nestKind X.prog X.w).is s.heap k p := by
  obtain ⟨b, h1, h2⟩ := h
  obtain ⟨_, its, r, o, e1, e2, n, e3⟩ := (show ObjOk X.prog X.w H s.heap p _ from I.hok p _ h1)
  obtain ⟨_, its2, r2, o2, f1, f2, n2, f3⟩ := (show ObjOk X.prog X.w H s.heap b _ from I.hok b _ h2)
  cases r with
  | cons ra rr =>
    cases rr with
    | cons rb rn =>
      cases rn
      obtain ⟨t, rfl⟩ := ra
      cases rb
      refine ⟨o, n, t, b, e1, e2, e3, o2, its2.toArray, n2, f1, f2, f3, ?_⟩
      have all : ∀ {ks : List Int} {us : List Value}, Vals (ks.map V.int) us → ItemsAre (intKind X.prog X.w) ks us := by
        intro ks
        induction ks with
        | nil => intro us r; cases r; exact .nil
        | cons z zs ih =>
          intro us r
          cases r with
          | cons ra rr =>
            obtain ⟨t, rfl⟩ := ra
            exact .cons (by simp [intKind, Value.isInt]) (ih rr)
      simpa using all r2
theorem ndt_of (I : Inv X pins σ H s) (d : NDt H a xs) : (a == sysModules) = false ∧ s.heap.DictOfH (nestKind X.prog X.w) a (xs.map nV) := by
  obtain ⟨⟨h0, o, es, ep, h1, h2, h3, h4⟩, _⟩ := (show ObjOk X.prog X.w H s.heap a (ND a xs) from I.hok a _ d.o)
  refine ⟨h0, o, es, ep, h1, h2, h3, by rw [h4, List.map_map]; rfl, fun x hx => ?_, by rw [List.map_map]; exact d.n⟩
  obtain ⟨y, hy, rfl⟩ := List.mem_map.mp hx
  exact nky_is I (d.k y hy)
theorem nd_get {Q : Value → Shared → Prop} (hu : A.units + 2 < cLine) (I : Inv X pins σ H s) (d : NDt H a xs) (ky : NKy H p k) (g : nAt xs k = some q) (h : ∀ s', Inv X pins σ H s' → Q (.ref q) s') :
    wpAny (model X.prog X.w) A (getItem (.ref a) (.ref p)) Q E s := by
  obtain ⟨_, dd⟩ := ndt_of I d
  have e := nAt_atKey k xs
  rw [g] at e
  obtain ⟨w, e1, e2⟩ := Option.map_eq_some_iff.mp e
  refine wpAny_getItem_heap (knd := nestKind X.prog X.w) (show A.in1.units + 1 < cLine from hu) (nky_is I ky) dd e1 ?_
  rw [e2]
  exact h _ (I.tok _)
theorem nd_notIn {Q : Value → Shared → Prop} (hu : A.units + 2 < cLine) (I : Inv X pins σ H s) (d : NDt H a xs) (ky : NKy H p k) (h : ∀ s', Inv X pins σ H s' → Q (.bool (!(nAt xs k).isSome)) s') :
    wpAny (model X.prog X.w) A (compareOp .NotIn (.ref p) (.ref a)) Q E s := by
  obtain ⟨hd, dd⟩ := ndt_of I d
  refine wpAny_notIn_heap (knd := nestKind X.prog X.w) (show A.in1.units + 1 < cLine from hu) (nky_is I ky) hd dd ?_
  have e := congrArg Option.isSome (nAt_atKey k xs)
  rw [Option.isSome_map, Option.isSome_map] at e
  rw [e]
  exact h _ (I.tok _)
theorem nd_put {Q : Unit → Shared → Prop} (hu : A.units + 2 < cLine) (I : Inv X pins σ H s) (d : NDt H a xs) (ky : NKy H p k) (g : nAt xs k = none) (h : ∀ s', Inv X pins σ (upd H a (ND a (xs ++ [(k, p, q)]))) s' → Q () s') :
    wpAny (model X.prog X.w) A (setItem (.ref a) (.ref p) (.ref q)) Q E s := by
  obtain ⟨hd, dd⟩ := ndt_of I d
  have e := nAt_atKey k xs
  rw [g] at e
  refine wpAny_setItem_heap (knd := nestKind X.prog X.w) (hsz := by rw [List.length_map]; exact Nat.le_of_lt d.l) (show A.in1.units + 1 < cLine from hu) (nky_is I ky) dd fun h' dd' hs => h _ ?_
  rw [storedH_new (Option.map_eq_none_iff.mp e)] at dd'
  obtain ⟨o, es, ep, h1, h2, h3, h4, _, h5⟩ := dd'
  refine d_write I (by rw [d.o]; exact True.intro) hs ⟨o, h1⟩ ⟨⟨hd, o, es, ep, h1, h2, h3, ?_⟩, ⟨o, h1⟩, fun g1 g2 z k => ?_⟩
  · rw [h4, List.map_append, List.map_map, List.map_append]
    rfl
  · obtain ⟨_, o, es, ep, z1, z2⟩ := z
    exact ⟨hd, o, es, ep, k _ z1, z2⟩
end
def tNDGet (td ty : TE) : TE := fun σ H Q => td σ H fun x H1 => ty σ H1 fun y H2 => ∃ a xs p k q, x = .ref a ∧ y = .ref p ∧ NDt H2 a xs ∧ NKy H2 p k ∧ nAt xs k = some q ∧ Q (.ref q) H2
def tNDNot (ty td : TE) : TE := fun σ H Q => ty σ H fun y H1 => td σ H1 fun x H2 => ∃ a xs p k, x = .ref a ∧ y = .ref p ∧ NDt H2 a xs ∧ NKy H2 p k ∧ Q (.bl (!(nAt xs k).isSome)) H2
def sNDPut (td ty tv : TE) : TS := fun D σ H => tv σ H fun v H1 => td σ H1 fun x H2 => ty σ H2 fun y H3 => ∃ a xs p k q, x = .ref a ∧ y = .ref p ∧ v = .ref q ∧ NDt H3 a xs ∧ NKy H3 p k ∧ nAt xs k = none ∧ D.nx σ (upd H3 a (ND a (xs ++ [(k, p, q)])))
def tNDNew : TE := fun _ H Q => ∀ p, H p = none → Q (.ref p) (upd H p (ND p []))
section
variable {X : Cx} {o i value : Expr} {pos pos' : Pos} {td ty tv : TE}
theorem pe_ndget (hu : X.A.units + 64 < cLine) (ho : PE X o td) (hi : PE X i ty) (hs : NoSl i) : PE X (.Subscript o i pos) (tNDGet td ty) := by
  refine .mk fun pins s σ H Q I h => ?_
  refine subD_of PySem.F.slot_dict_getitem.lookup hs (thn (ho pins s σ H _ I h) fun u s1 ⟨x, H1, I1, rx, q1⟩ => thn (hi pins s1 σ H1 _ I1 q1) fun iv s2 ⟨y, H2, I2, ry, a, xs, p, k, q, ex, ey, d, ky, g, q2⟩ => ?_)
  subst ex ey
  cases rx
  cases ry
  exact ⟨(ndt_of I2 d).2.typeIs, nd_get (by omega) I2 d ky g fun s3 I3 => ⟨.ref q, H2, I3, rfl, q2⟩⟩
theorem pc_ndnotin (hu : X.A.units + 64 < cLine) (hi : PE X i ty) (ho : PE X o td) : PC X .NotIn i o (tNDNot ty td) := by
  intro pins s σ H Q I h
  refine thn (hi pins s σ H _ I h) fun iv s1 ⟨y, H1, I1, ry, q1⟩ => thn (ho pins s1 σ H1 _ I1 q1) fun u s2 ⟨x, H2, I2, rx, a, xs, p, k, ex, ey, d, ky, q2⟩ => ?_
  subst ex ey
  cases rx
  cases ry
  exact nd_notIn (by omega) I2 d ky fun s3 I3 => ⟨.bl _, H2, I3, rfl, q2⟩
theorem ps_ndput (hu : X.A.units + 64 < cLine) (ho : PE X o td) (hi : PE X i ty) (hv : PE X value tv) (hs : swapsWith value (some (.Subscript o i pos')) pos.line X.env = pure false) :
    PS X (.Assign [.Subscript o i pos'] value pos) (sNDPut td ty tv) := by
  refine .mk fun pins s σ H D I h => ?_
  refine wpAny_Assign_Subscript (thn (hv pins s σ H _ I h) fun r s1 ⟨v, H1, I1, rv, q1⟩ => thn (ho pins s1 σ H1 _ I1 q1) fun u s2 ⟨x, H2, I2, rx, q2⟩ => thn (hi pins s2 σ H2 _ I2 q2) fun iv s3 ⟨y, H3, I3, ry, a, xs, p, k, q, ex, ey, ev, d, ky, g, q3⟩ => ?_) hs
  subst ex ey ev
  cases rx
  cases ry
  cases rv
  exact nd_put (by omega) I3 d ky g fun s4 I4 => ⟨σ, _, I4, q3⟩
theorem pe_ndnew : PE X (.Dict [] [] pos) tNDNew := .mk fun pins s σ H Q I h =>
  wpAny_Dict_empty ⟨.ref s.heap.objs.size, _, I.laid (a := s.heap.objs.size) (o := ND s.heap.objs.size []) (t' := s.toks) (fun _ _ q => Heap.get?_push_of_some _ q) (Nat.le_refl _)
    ⟨⟨beq_eq_false_iff_ne.mpr (Ne.symm (Nat.ne_of_lt I.big)), _, #[], 0, Heap.get?_push_size _ rfl, ⟨rfl, rfl, rfl⟩, rfl, rfl⟩, ⟨_, Heap.get?_push_size _ rfl⟩, fun g1 g2 ⟨h0, o, es, ep, z1, z2⟩ k => ⟨h0, o, es, ep, k _ z1, z2⟩⟩, rfl, h _ (I.hok.fresh (Nat.le_refl _))⟩
end
section
variable {σ : St} {H : Hp} {Q : VK} {td ty tv : TE}
theorem i_ndget (h : td σ H fun x H1 => ty σ H1 fun y H2 => ∃ a xs p k q, x = .ref a ∧ y = .ref p ∧ NDt H2 a xs ∧ NKy H2 p k ∧ nAt xs k = some q ∧ Q (.ref q) H2) : tNDGet td ty σ H Q := h
theorem i_ndnot (h : ty σ H fun y H1 => td σ H1 fun x H2 => ∃ a xs p k, x = .ref a ∧ y = .ref p ∧ NDt H2 a xs ∧ NKy H2 p k ∧ Q (.bl (!(nAt xs k).isSome)) H2) : tNDNot ty td σ H Q := h
theorem i_ndput {nx bk ct : St → Hp → Prop} {rt : VK} (h : tv σ H fun v H1 => td σ H1 fun x H2 => ty σ H2 fun y H3 => ∃ a xs p k q, x = .ref a ∧ y = .ref p ∧ v = .ref q ∧ NDt H3 a xs ∧ NKy H3 p k ∧ nAt xs k = none ∧ nx σ (upd H3 a (ND a (xs ++ [(k, p, q)])))) : sNDPut td ty tv ⟨nx, rt, bk, ct⟩ σ H := h
theorem i_ndnew (h : ∀ p, H p = none → Q (.ref p) (upd H p (ND p []))) : tNDNew σ H Q := h
end
/-- a, b, c = x, y, z with plain local names: stored from the right -/
def tPar3 (i j k : Nat) (ta : TA) : TS := fun D σ H => ta σ H fun vs H1 => ∃ u v w, vs = [u, v, w] ∧ D.nx (((σ.set i (some u)).set j (some v)).set k (some w)) H1
section
variable {X : Cx} {pos : Pos}
theorem ps_par3 {i j k : Nat} {x y z : Str} {a b c : Expr} {ta : TA} {px py pz pt : Pos} {kt k2 pt2} (hc : X.calm = true) (hN : X.N.Nodup) (hi : X.N[i]? = some x) (hj : X.N[j]? = some y) (hk : X.N[k]? = some z) (hij : i ≠ j ∧ i ≠ k ∧ j ≠ k)
    (hx : X.env.scope.names.lookup x = some .local) (hy : X.env.scope.names.lookup y = some .local) (hz : X.env.scope.names.lookup z = some .local) (ha : PA X [a, b, c] ta)
    (hw : swappedStores [.Tuple [.Name x px, .Name y py, .Name z pz] kt pt] (.Tuple [a, b, c] k2 pt2) X.env = pure (some [x, y, z]))
    (hs : swapsWithSole [.Tuple [.Name x px, .Name y py, .Name z pz] kt pt] (.Tuple [a, b, c] k2 pt2) pos.line X.env = pure false := by rfl) :
    PS X (.Assign [.Tuple [.Name x px, .Name y py, .Name z pz] kt pt] (.Tuple [a, b, c] k2 pt2) pos) (tPar3 i j k ta) := by
  refine .mk fun pins s σ H D I h => ?_
  rw [exec_Assign_arm]
  refine wpAny_bind (wpAny_standAt ?_)
  rw [hs]
  refine wpAny_bind (wpAny_pure ?_)
  rw [if_neg (by decide)]
  refine wpAny_bind (Tuple_ (thn (ha _ pins s σ H _ I h) fun us s1 ⟨vs, H1, I1, r1, q1⟩ => ?_))
  obtain ⟨v1, v2, v3, e1, q1⟩ := q1
  subst e1
  obtain ⟨u1, u2, u3, rfl, r1, r2, r3⟩ : ∃ u1 u2 u3, us = [u1, u2, u3] ∧ RelV v1 u1 ∧ RelV v2 u2 ∧ RelV v3 u3 := by
    cases r1 with
    | cons p q =>
      cases q with
      | cons p' q' =>
        cases q' with
        | cons p'' q'' =>
          cases q''
          exact ⟨_, _, _, rfl, p, p', p''⟩
  refine wpAny_newObj_type ?_ (by show 3 ≤ sizeLine; decide)
  have I2 : Inv X pins σ H1 { s1 with heap := s1.heap.push { cls := .type "tuple", data := .seq [u1, u2, u3].toArray } } := I1.kept (t' := s1.toks) fun b o e => Heap.get?_push_of_some _ e
  rw [hw]
  refine wpAny_bind (wpAny_pure ?_)
  show wpAny (model X.prog X.w) X.A (do rule "assign.swapped-stores"; let items ← unpackItems (.ref s1.heap.objs.size) 3 none; assignInOrder [fun v => bindName X.env z v, fun v => bindName X.env y v, fun v => bindName X.env x v] items.reverse; pure Flow.next) _ _ _
  refine wpAny_bind (wpAny_rule (wpAny_bind (unpackItems_tuple (items := #[u1, u2, u3]) (I.ok.hd hc) (IsTup.new s1.heap _) fun h' hx' => ?_)))
  have I3 := I2.kept (h' := h') (t' := s1.toks) fun b o e => hx' b o (Nat.ne_of_lt (Heap.lt_size e)) e
  show wpAny _ _ (assignInOrder [fun v => bindName X.env z v, fun v => bindName X.env y v, fun v => bindName X.env x v] [u3, u2, u1] >>= fun _ => pure Flow.next) _ _ _
  refine wpAny_bind (assignInOrder_cons (wpAny_bindName (store_ok I3 hN hk (.inl hz) r3 (fun s2 I4 => ?_) (.inr hz))))
  refine assignInOrder_cons (wpAny_bindName (store_ok I4 hN hj (.inl hy) r2 (fun s3 I5 => ?_) (.inr hy)))
  refine assignInOrder_cons (wpAny_bindName (store_ok I5 hN hi (.inl hx) r1 (fun s4 I6 => assignInOrder_nil (wpAny_pure ?_)) (.inr hx)))
  rw [List.set_comm _ _ (Ne.symm hij.1), List.set_comm _ _ (Ne.symm hij.2.1), List.set_comm _ _ (Ne.symm hij.2.2)] at I6
  refine ⟨_, H1, I6, ?_⟩
  exact q1
theorem i_par3 {i j k : Nat} {ta : TA} {σ : St} {H : Hp} {nx bk ct : St → Hp → Prop} {rt : VK} (h : ta σ H fun vs H1 => ∃ u v w, vs = [u, v, w] ∧ nx (((σ.set i (some u)).set j (some v)).set k (some w)) H1) : tPar3 i j k ta ⟨nx, rt, bk, ct⟩ σ H := h
end
end L2
/-! The mixing over whole numbers: point 11's weights, as the program reckons them. -/
namespace MixI
def giv (c b : Int) : Int := if b = 1 then c else 16777216 - c
def bitsN (x : Int) : Nat := if x == 0 then 0 else x.natAbs.log2 + 1
def shL (ws cs : List Int) (b : Int) : List Int := List.zipWith (fun w c => w * giv c b) ws cs
def grL (sh : List Int) : List Int := sh.map fun s => 31 * (sh.length : Int) * s + sh.sum
def tOf (s : Int) : Nat := bitsN s - 48
def lrn (ws cs : List Int) (b : Int) : List Int := (grL (shL ws cs b)).map fun v => v / 2 ^ tOf (grL (shL ws cs b)).sum
def wSum (ws cs : List Int) : Int := (List.zipWith (fun w c => w * c) ws cs).sum
def mixI (ws cs : List Int) : Int := wSum ws cs / ws.sum
structure WOk (k : Nat) (ws : List Int) : Prop where
  len : ws.length = k
  one : ∀ w ∈ ws, 1 ≤ w
  top : ∀ w ∈ ws, w < 281474976710656
structure COk (k : Nat) (cs : List Int) : Prop where
  len : cs.length = k
  lo : ∀ c ∈ cs, 32768 ≤ c
  hi : ∀ c ∈ cs, c ≤ 16744448
theorem giv_lo {c b : Int} (h1 : 32768 ≤ c) (h2 : c ≤ 16744448) : 32768 ≤ giv c b := by unfold giv; split <;> omega
theorem giv_hi {c b : Int} (h1 : 32768 ≤ c) (h2 : c ≤ 16744448) : giv c b ≤ 16744448 := by unfold giv; split <;> omega
theorem shL_len {ws cs : List Int} {b : Int} (h : ws.length = cs.length) : (shL ws cs b).length = ws.length := by
  unfold shL; rw [List.length_zipWith, ← h]; omega
theorem grL_len {sh : List Int} : (grL sh).length = sh.length := by unfold grL; rw [List.length_map]
theorem lrn_len {k : Nat} {ws cs : List Int} {b : Int} (hw : WOk k ws) (hc : COk k cs) : (lrn ws cs b).length = k := by
  unfold lrn; rw [List.length_map, grL_len, shL_len (by rw [hw.len, hc.len]), hw.len]
theorem sum_affine (m d : Int) : ∀ sh : List Int, (sh.map fun s => m * s + d).sum = m * sh.sum + sh.length * d
  | [] => by simp
  | s :: r => by
    simp only [List.map_cons, List.sum_cons, sum_affine m d r, List.length_cons, Int.natCast_add, Int.natCast_one, Int.mul_add, Int.add_mul]
    omega
theorem grL_sum (sh : List Int) : (grL sh).sum = 32 * (sh.length : Int) * sh.sum := by
  unfold grL
  rw [sum_affine, Int.mul_assoc, Int.mul_assoc]
  generalize (sh.length : Int) * sh.sum = x
  omega
theorem sum_nn : ∀ {l : List Int}, (∀ x ∈ l, 0 ≤ x) → 0 ≤ l.sum
  | [], _ => by simp
  | a :: r, h => by
    have h1 := h a (by simp)
    have h2 := sum_nn (l := r) fun x hx => h x (by simp [hx])
    rw [List.sum_cons]; omega
theorem le_sum : ∀ {l : List Int} {y : Int}, (∀ x ∈ l, 0 ≤ x) → y ∈ l → y ≤ l.sum
  | a :: r, y, h, hy => by
    have h1 := h a (by simp)
    have hr : ∀ x ∈ r, 0 ≤ x := fun x hx => h x (by simp [hx])
    have h2 := sum_nn hr
    rw [List.sum_cons]
    rcases List.mem_cons.mp hy with e | hy
    · omega
    · have := le_sum hr hy; omega
theorem sum_lo {c : Int} : ∀ {l : List Int}, (∀ x ∈ l, c ≤ x) → c * l.length ≤ l.sum
  | [], _ => by simp
  | a :: r, h => by
    have h1 := h a (by simp)
    have h2 := sum_lo (l := r) fun x hx => h x (by simp [hx])
    rw [List.sum_cons, List.length_cons, Int.natCast_add, Int.natCast_one, Int.mul_add]; omega
theorem sum_hi {c : Int} : ∀ {l : List Int}, (∀ x ∈ l, x ≤ c) → l.sum ≤ c * l.length
  | [], _ => by simp
  | a :: r, h => by
    have h1 := h a (by simp)
    have h2 := sum_hi (l := r) fun x hx => h x (by simp [hx])
    rw [List.sum_cons, List.length_cons, Int.natCast_add, Int.natCast_one, Int.mul_add]; omega
theorem zip_hi {f : Int → Int} {m : Int} : ∀ {ws cs : List Int}, ws.length = cs.length → (∀ w ∈ ws, 0 ≤ w) → (∀ c ∈ cs, f c ≤ m) → (List.zipWith (fun w c => w * f c) ws cs).sum ≤ m * ws.sum
  | [], [], _, _, _ => by simp
  | w :: r, c :: t, h, h1, h2 => by
    have i := zip_hi (f := f) (m := m) (ws := r) (cs := t) (by simpa using h) (fun x hx => h1 x (by simp [hx])) fun x hx => h2 x (by simp [hx])
    have a := Int.mul_le_mul_of_nonneg_left (h2 c (by simp)) (h1 w (by simp))
    rw [List.zipWith_cons_cons, List.sum_cons, List.sum_cons, Int.mul_add, Int.mul_comm m w]; omega
theorem WOk.pos {k : Nat} {ws : List Int} (h : WOk k ws) (hk : 1 ≤ k) : 1 ≤ ws.sum := by
  have := sum_lo (c := 1) h.one
  rw [h.len] at this; omega
theorem WOk.small {k : Nat} {ws : List Int} (h : WOk k ws) (hk : k ≤ 6) : ws.sum ≤ 1688849860263936 := by
  have := sum_hi (c := 281474976710656) fun x hx => Int.le_of_lt (h.top x hx)
  rw [h.len] at this; omega
theorem two_cast (t : Nat) : (2 : Int) ^ t = ((2 ^ t : Nat) : Int) := by rw [Int.natCast_pow]; rfl
theorem two_pos (t : Nat) : (0 : Int) < 2 ^ t := by rw [two_cast]; exact Int.natCast_pos.mpr (Nat.pow_pos (by decide))
/-- how many figures are dropped -/
theorem tOf_is {s : Int} (h : 1 ≤ s) : s < 281474976710656 * 2 ^ tOf s ∧ (tOf s = 0 ∨ 140737488355328 * 2 ^ tOf s ≤ s) := by
  have hn : s.natAbs ≠ 0 := by omega
  have e : (s.natAbs : Int) = s := by omega
  have a := Nat.log2_self_le hn
  have b := @Nat.lt_log2_self s.natAbs
  unfold tOf bitsN
  rw [if_neg (by simp; omega)]
  generalize s.natAbs.log2 = L at a b ⊢
  rcases Nat.lt_or_ge L 48 with q | q
  · have z : L + 1 - 48 = 0 := by omega
    rw [z]
    refine ⟨?_, .inl rfl⟩
    have : 2 ^ (L + 1) ≤ 2 ^ 48 := Nat.pow_le_pow_right (by decide) (by omega)
    have e48 : (2 : Nat) ^ 48 = 281474976710656 := by decide
    rw [e48] at this
    rw [← e, Int.pow_zero, Int.mul_one]
    omega
  · obtain ⟨t, rfl⟩ : ∃ t, L = 47 + t := ⟨L - 47, by omega⟩
    have z : 47 + t + 1 - 48 = t := by omega
    rw [z, two_cast]
    have e47 : (2 : Nat) ^ (47 + t) = 140737488355328 * 2 ^ t := by rw [Nat.pow_add]
    have e48 : (2 : Nat) ^ (47 + t + 1) = 281474976710656 * 2 ^ t := by rw [show 47 + t + 1 = 48 + t by omega, Nat.pow_add]
    rw [e47] at a
    rw [e48] at b
    generalize 2 ^ t = T at a b ⊢
    exact ⟨by omega, .inr (by omega)⟩
section
variable {k : Nat} {ws cs : List Int} {b : Int}
theorem shL_pos (hw : WOk k ws) (hc : COk k cs) : ∀ s ∈ shL ws cs b, 1 ≤ s := by
  intro s hs
  unfold shL at hs
  rw [List.mem_iff_getElem] at hs
  obtain ⟨i, hi, rfl⟩ := hs
  rw [List.length_zipWith] at hi
  rw [List.getElem_zipWith]
  have h1 := hw.one ws[i] (List.getElem_mem _)
  have h2 := giv_lo (b := b) (hc.lo cs[i] (List.getElem_mem _)) (hc.hi cs[i] (List.getElem_mem _))
  have := Int.mul_le_mul h1 h2 (by decide) (by omega)
  omega
theorem all_le {sh : List Int} (h : ∀ s ∈ sh, 1 ≤ s) : ∀ v ∈ grL sh, sh.sum ≤ v ∧ v ≤ (grL sh).sum ∧ 0 ≤ v := by
  have hs := sum_nn (l := sh) fun x hx => by have := h x hx; omega
  have hv : ∀ v ∈ grL sh, sh.sum ≤ v := fun v hv => by
    unfold grL at hv
    obtain ⟨s, hs', rfl⟩ := List.mem_map.mp hv
    have := h s hs'
    have : 0 ≤ 31 * (sh.length : Int) * s := Int.mul_nonneg (Int.mul_nonneg (by decide) (Int.natCast_nonneg _)) (by omega)
    omega
  exact fun v h1 => ⟨hv v h1, le_sum (fun x hx => by have := hv x hx; omega) h1, by have := hv v h1; omega⟩
theorem lrn_ok (hk : 1 ≤ k) (hk6 : k ≤ 6) (hw : WOk k ws) (hc : COk k cs) : WOk k (lrn ws cs b) := by
  have hl : (shL ws cs b).length = k := by rw [shL_len (by rw [hw.len, hc.len]), hw.len]
  have hp := shL_pos (b := b) hw hc
  have ha : 1 ≤ (shL ws cs b).sum := by
    have := sum_lo (c := 1) hp
    rw [hl] at this; omega
  have hg := all_le hp
  have hs := grL_sum (shL ws cs b)
  rw [hl] at hs
  have h1 : 1 ≤ (grL (shL ws cs b)).sum := by
    rw [hs]
    have : 32 * (k : Int) * 1 ≤ 32 * (k : Int) * (shL ws cs b).sum := Int.mul_le_mul_of_nonneg_left ha (by omega)
    omega
  have hsv : (grL (shL ws cs b)).sum ≤ 192 * (shL ws cs b).sum := by
    rw [hs]; exact Int.mul_le_mul_of_nonneg_right (by omega) (by omega)
  obtain ⟨t1, t2⟩ := tOf_is h1
  have tp := two_pos (tOf (grL (shL ws cs b)).sum)
  refine ⟨lrn_len hw hc, fun w h => ?_, fun w h => ?_⟩
  · obtain ⟨v, hv, rfl⟩ := List.mem_map.mp h
    obtain ⟨v1, v2, v3⟩ := hg v hv
    refine (Int.le_ediv_iff_mul_le tp).mpr ?_
    rcases t2 with t2 | t2
    · rw [t2, Int.pow_zero]; omega
    · generalize (2 : Int) ^ tOf (grL (shL ws cs b)).sum = T at *
      omega
  · obtain ⟨v, hv, rfl⟩ := List.mem_map.mp h
    obtain ⟨v1, v2, v3⟩ := hg v hv
    exact (Int.ediv_lt_iff_lt_mul tp).mpr (by omega)
theorem zip_range {g : Int → Int → Int} {ws cs : List Int} (h : cs.length = ws.length) : (List.range ws.length).map (fun i => g ((ws[i]?).getD 0) ((cs[i]?).getD 0)) = List.zipWith g ws cs := by
  apply List.ext_getElem
  · rw [List.length_map, List.length_range, List.length_zipWith]; omega
  · intro i h1 h2
    rw [List.length_map, List.length_range] at h1
    rw [List.getElem_map, List.getElem_range, List.getElem_zipWith, List.getElem?_eq_getElem h1, List.getElem?_eq_getElem (by omega)]
    rfl
end
end MixI
namespace Law
open PySem L2
local macro_rules | `(tactic| walk_at "side") => `(tactic| first | exact ⟨by decide, by decide⟩ | (show (0 : Int) < _; first | decide | omega) | exact Or.inl ⟨by omega, by omega⟩ | exact Or.inr ⟨by omega, by omega⟩ | exact ⟨by omega, by omega⟩ | exact ⟨by decide, by decide, by decide⟩)
local macro_rules | `(tactic| walk_at "len") => `(tactic| first | decide | (simp only [List.length_cons, List.length_nil]; decide))
local macro_rules | `(tactic| walk_at "rd1") => `(tactic| with_reducible first
  | refine i_seq ?_
  | (refine' i_var ?rdv ?_; (case rdv => with_unfolding_all rfl))
  | refine i_c ?_
  | refine i_op ?_
  | refine i_I0 ?_
  | refine i_test ?_
  | refine i_tB ?_
  | refine i_bl ?_
  | refine i_if ?_
  | refine i_asg ?_
  | refine i_ret ?_
  | refine i_next ?_
  | refine i_drop ?_
  | refine i_call ?_
  | refine i_callE ?_
  | refine i_methE ?_
  | refine i_makeE ?_
  | refine i_raise ?_
  | refine i_try ?_
  | refine i_cons ?_
  | refine i_nil ?_
  | refine i_cb ?_
  | refine i_eqI ?_
  | refine i_neI ?_
  | refine i_chain ?_
  | refine i_andV ?_
  | refine i_orV ?_
  | refine i_notV ?_
  | refine i_and ?_
  | refine i_or ?_
  | refine i_not ?_
  | refine i_ifE ?_
  | refine i_retN ?_
  | refine i_tup ?_
  | refine i_lst ?_
  | refine i_meth ?_
  | refine i_make ?_
  | refine i_make0 ?_
  | refine i_bm ?_
  | refine i_bm0 ?_
  | refine i_fld ?_
  | refine i_sfld ?_
  | refine i_sl ?_
  | refine i_noPart ?_
  | refine i_part ?_
  | refine i_int ?_
  | refine i_un ?_
  | refine i_U ?_
  | refine g0 ?_ | refine g1 ?_ | refine g2 ?_ | refine g3 ?_ | refine g4 ?_ | refine g5 ?_ | refine g6 ?_ | refine g7 ?_ | refine g8 ?_ | refine g9 ?_ | refine g10 ?_ | refine g11 ?_ | refine g12 ?_ | refine g13 ?_ | refine g14 ?_ | refine g15 ?_ | refine g16 ?_ | refine g17 ?_ | refine g18 ?_ | refine g19 ?_ | refine g20 ?_ | refine g21 ?_ | refine g22 ?_ | refine g23 ?_
  | refine i_gCons ?_
  | refine i_gNil ?_
  | refine iteT ?_
  | refine iteF ?_
  | refine iteNT ?_
  | refine iteNF ?_
  | refine i_for ?_
  | refine i_iList ?_
  | refine i_iTup ?_
  | refine i_iEnum ?_
  | refine i_compF ?_
  | refine i_iRng1 ?_
  | refine i_iRng2 ?_
  | refine i_iRng3 ?_
  | refine i_iEnumT ?_
  | refine i_iZip ?_
  | refine i_iZipT ?_
  | refine i_gSub ?_
  | refine i_thaw ?_
  | refine i_thawE ?_
  | refine i_iStr ?_
  | refine i_iKeys ?_
  | refine i_iVals ?_
  | refine i_dnewK ?_
  | refine i_dpop1 ?_
  | refine i_iItems ?_
  | refine i_bits ?_
  | refine i_compT ?_
  | refine i_compI ?_
  | refine i_dget ?_
  | refine i_dget1 ?_
  | refine i_dget2 ?_
  | refine i_din ?_
  | refine i_dnotin ?_
  | refine i_dput ?_
  | refine i_dnewT ?_
  | refine i_ndget ?_
  | refine i_ndnot ?_
  | refine i_ndput ?_
  | refine i_ndnew ?_
  | refine i_par3 ?_
  | refine i_comp ?_
  | refine i_after ?_
  | (refine' i_shlC ?rdp ?rdq ?_; (case rdp => with_unfolding_all exact ⟨by decide, by decide, by decide⟩); (case rdq => with_unfolding_all decide))
  | (refine' i_powC ?rdp ?rdq ?_; (case rdp => with_unfolding_all exact ⟨by decide, by decide, by decide⟩); (case rdq => with_unfolding_all decide))
  | refine i_nonA ?_
  | (refine i_I ?rdc ?_; (case rdc => with_unfolding_all walk_at "side")))
local macro_rules | `(tactic| walk_at "rd") => `(tactic| repeat walk_at "rd1")
def top (i : Nat) : Stmt := PySem.Challenge.pw_foretell_k25_texts_behind_one_another.main.body.getD i (.Pass ⟨0, 0, 0, 0⟩)
abbrev s_is_whole : Stmt := top 9
abbrev s_is_bit : Stmt := top 10
abbrev s_is_chance : Stmt := top 11
abbrev s_check_chance : Stmt := top 12
abbrev s_check_bit : Stmt := top 13
abbrev s_gives : Stmt := top 14
abbrev s_Even___init__ : Stmt := inClass (top 19) 0
abbrev s_Even_chance : Stmt := inClass (top 19) 1
abbrev s_Even_seen : Stmt := inClass (top 19) 2
abbrev s_Quick___init__ : Stmt := inClass (top 20) 0
abbrev s_Quick_chance : Stmt := inClass (top 20) 1
abbrev s_Quick_seen : Stmt := inClass (top 20) 2
abbrev s_Run___init__ : Stmt := inClass (top 21) 0
abbrev s_Run_chance : Stmt := inClass (top 21) 1
abbrev s_Run_seen : Stmt := inClass (top 21) 2
abbrev s_slot_of : Stmt := top 22
abbrev s_is_kind : Stmt := top 28
abbrev s_is_place : Stmt := top 29
abbrev s_are_places : Stmt := top 30
abbrev s_is_look : Stmt := top 31
abbrev s_checked_looks : Stmt := top 32
abbrev s_sign_back : Stmt := top 33
abbrev s_context_of : Stmt := top 34
abbrev s_Book___init__ : Stmt := inClass (top 35) 0
abbrev s_Book_slot_at : Stmt := inClass (top 35) 2
abbrev s_Mixer___init__ : Stmt := inClass (top 40) 0
abbrev s_Mixer_weights : Stmt := inClass (top 40) 1
abbrev s_Mixer_mixed : Stmt := inClass (top 40) 2
abbrev s_Mixer_learn : Stmt := inClass (top 40) 3
abbrev s_Foreteller___init__ : Stmt := inClass (top 43) 0
abbrev s_Foreteller_arrive : Stmt := inClass (top 43) 1
abbrev s_Foreteller_chances : Stmt := inClass (top 43) 2
abbrev s_Foreteller_chance : Stmt := inClass (top 43) 3
abbrev s_Foreteller_weights : Stmt := inClass (top 43) 4
abbrev s_Foreteller_node : Stmt := inClass (top 43) 5
abbrev s_Foreteller_signs : Stmt := inClass (top 43) 6
abbrev s_Foreteller_see : Stmt := inClass (top 43) 7
abbrev s_Foreteller_step : Stmt := inClass (top 43) 8
abbrev s_Foreteller_step_in_sign : Stmt := inClass (top 43) 9
abbrev s__law_cell_at : Stmt := top 45
abbrev s__law_look : Stmt := top 46
abbrev s__law_looks : Stmt := top 47
abbrev s__law_sign : Stmt := top 48
abbrev s__law_text : Stmt := top 49
abbrev s__law_bits : Stmt := top 50
abbrev s__law_learnt : Stmt := top 51
abbrev s__law_context : Stmt := top 52
abbrev s__law_slots : Stmt := top 53
abbrev s__law_mixed : Stmt := top 54
abbrev s__law_seen : Stmt := top 55
abbrev s_law : Stmt := top 56
structure Ads where
  f_is_whole : Addr
  d_is_whole : FuncData
  f_is_bit : Addr
  d_is_bit : FuncData
  f_is_chance : Addr
  d_is_chance : FuncData
  f_check_chance : Addr
  d_check_chance : FuncData
  f_check_bit : Addr
  d_check_bit : FuncData
  f_gives : Addr
  d_gives : FuncData
  f_Even___init__ : Addr
  d_Even___init__ : FuncData
  f_Even_chance : Addr
  d_Even_chance : FuncData
  f_Even_seen : Addr
  d_Even_seen : FuncData
  f_Quick___init__ : Addr
  d_Quick___init__ : FuncData
  f_Quick_chance : Addr
  d_Quick_chance : FuncData
  f_Quick_seen : Addr
  d_Quick_seen : FuncData
  f_Run___init__ : Addr
  d_Run___init__ : FuncData
  f_Run_chance : Addr
  d_Run_chance : FuncData
  f_Run_seen : Addr
  d_Run_seen : FuncData
  f_slot_of : Addr
  d_slot_of : FuncData
  f_is_kind : Addr
  d_is_kind : FuncData
  f_is_place : Addr
  d_is_place : FuncData
  f_are_places : Addr
  d_are_places : FuncData
  f_is_look : Addr
  d_is_look : FuncData
  f_checked_looks : Addr
  d_checked_looks : FuncData
  f_sign_back : Addr
  d_sign_back : FuncData
  f_context_of : Addr
  d_context_of : FuncData
  f_Book___init__ : Addr
  d_Book___init__ : FuncData
  f_Book_slot_at : Addr
  d_Book_slot_at : FuncData
  f_Mixer___init__ : Addr
  d_Mixer___init__ : FuncData
  f_Mixer_weights : Addr
  d_Mixer_weights : FuncData
  f_Mixer_mixed : Addr
  d_Mixer_mixed : FuncData
  f_Mixer_learn : Addr
  d_Mixer_learn : FuncData
  f_Foreteller___init__ : Addr
  d_Foreteller___init__ : FuncData
  f_Foreteller_arrive : Addr
  d_Foreteller_arrive : FuncData
  f_Foreteller_chances : Addr
  d_Foreteller_chances : FuncData
  f_Foreteller_chance : Addr
  d_Foreteller_chance : FuncData
  f_Foreteller_weights : Addr
  d_Foreteller_weights : FuncData
  f_Foreteller_node : Addr
  d_Foreteller_node : FuncData
  f_Foreteller_signs : Addr
  d_Foreteller_signs : FuncData
  f_Foreteller_see : Addr
  d_Foreteller_see : FuncData
  f_Foreteller_step : Addr
  d_Foreteller_step : FuncData
  f_Foreteller_step_in_sign : Addr
  d_Foreteller_step_in_sign : FuncData
  f__law_cell_at : Addr
  d__law_cell_at : FuncData
  f__law_look : Addr
  d__law_look : FuncData
  f__law_looks : Addr
  d__law_looks : FuncData
  f__law_sign : Addr
  d__law_sign : FuncData
  f__law_text : Addr
  d__law_text : FuncData
  f__law_bits : Addr
  d__law_bits : FuncData
  f__law_learnt : Addr
  d__law_learnt : FuncData
  f__law_context : Addr
  d__law_context : FuncData
  f__law_slots : Addr
  d__law_slots : FuncData
  f__law_mixed : Addr
  d__law_mixed : FuncData
  f__law_seen : Addr
  d__law_seen : FuncData
  f_law : Addr
  d_law : FuncData
  C_Even : Addr
  C_Quick : Addr
  C_Run : Addr
  C_Mixer : Addr
  C_Book : Addr
  C_Foreteller : Addr
  C_NoChance : Addr
  C_NoBit : Addr
  C_NoLooks : Addr
  t_LEAST : Tok
  t_ONE : Tok
  t_MOST_COUNTED : Tok
  t_FARTHEST : Tok
  t_MOST_PLACES : Tok
  t_MOST_LOOKS : Tok
  t_NO_SIGN : Tok
  t_FIRST_WEIGHT : Tok
  t_OWN_PARTS : Tok
  t_MOST_FIGURES : Tok
  t_NODES_END : Tok
  W_KINDS : Addr
structure Txt (K : PySem.W.Frag) (mg : Str → Option Value) (a : Ads) : Prop where
  y_is_whole : Dff K mg "is_whole" s_is_whole ["thing"] a.f_is_whole a.d_is_whole
  y_is_bit : Dff K mg "is_bit" s_is_bit ["thing"] a.f_is_bit a.d_is_bit
  y_is_chance : Dff K mg "is_chance" s_is_chance ["thing"] a.f_is_chance a.d_is_chance
  y_check_chance : Dff K mg "check_chance" s_check_chance ["thing"] a.f_check_chance a.d_check_chance
  y_check_bit : Dff K mg "check_bit" s_check_bit ["thing"] a.f_check_bit a.d_check_bit
  y_gives : Dff K mg "gives" s_gives ["chance", "bit"] a.f_gives a.d_gives
  y_Even___init__ : Dfm K a.C_Even "__init__" "Even.__init__" s_Even___init__ ["self"] a.f_Even___init__ a.d_Even___init__
  y_Even_chance : Dfm K a.C_Even "chance" "Even.chance" s_Even_chance ["self"] a.f_Even_chance a.d_Even_chance
  y_Even_seen : Dfm K a.C_Even "seen" "Even.seen" s_Even_seen ["self", "bit"] a.f_Even_seen a.d_Even_seen
  y_Quick___init__ : Dfm K a.C_Quick "__init__" "Quick.__init__" s_Quick___init__ ["self"] a.f_Quick___init__ a.d_Quick___init__
  y_Quick_chance : Dfm K a.C_Quick "chance" "Quick.chance" s_Quick_chance ["self"] a.f_Quick_chance a.d_Quick_chance
  y_Quick_seen : Dfm K a.C_Quick "seen" "Quick.seen" s_Quick_seen ["self", "bit"] a.f_Quick_seen a.d_Quick_seen
  y_Run___init__ : Dfm K a.C_Run "__init__" "Run.__init__" s_Run___init__ ["self"] a.f_Run___init__ a.d_Run___init__
  y_Run_chance : Dfm K a.C_Run "chance" "Run.chance" s_Run_chance ["self"] a.f_Run_chance a.d_Run_chance
  y_Run_seen : Dfm K a.C_Run "seen" "Run.seen" s_Run_seen ["self", "bit"] a.f_Run_seen a.d_Run_seen
  y_slot_of : Dff K mg "slot_of" s_slot_of ["kind"] a.f_slot_of a.d_slot_of
  y_is_kind : Dff K mg "is_kind" s_is_kind ["thing"] a.f_is_kind a.d_is_kind
  y_is_place : Dff K mg "is_place" s_is_place ["thing"] a.f_is_place a.d_is_place
  y_are_places : Dff K mg "are_places" s_are_places ["thing"] a.f_are_places a.d_are_places
  y_is_look : Dff K mg "is_look" s_is_look ["thing"] a.f_is_look a.d_is_look
  y_checked_looks : Dff K mg "checked_looks" s_checked_looks ["thing"] a.f_checked_looks a.d_checked_looks
  y_sign_back : Dff K mg "sign_back" s_sign_back ["signs", "place"] a.f_sign_back a.d_sign_back
  y_context_of : Dff K mg "context_of" s_context_of ["look", "signs", "node"] a.f_context_of a.d_context_of
  y_Book___init__ : Dfm K a.C_Book "__init__" "Book.__init__" s_Book___init__ ["self", "look"] a.f_Book___init__ a.d_Book___init__
  y_Book_slot_at : Dfm K a.C_Book "slot_at" "Book.slot_at" s_Book_slot_at ["self", "signs", "node"] a.f_Book_slot_at a.d_Book_slot_at
  y_Mixer___init__ : Dfm K a.C_Mixer "__init__" "Mixer.__init__" s_Mixer___init__ ["self", "many"] a.f_Mixer___init__ a.d_Mixer___init__
  y_Mixer_weights : Dfm K a.C_Mixer "weights" "Mixer.weights" s_Mixer_weights ["self"] a.f_Mixer_weights a.d_Mixer_weights
  y_Mixer_mixed : Dfm K a.C_Mixer "mixed" "Mixer.mixed" s_Mixer_mixed ["self", "chances"] a.f_Mixer_mixed a.d_Mixer_mixed
  y_Mixer_learn : Dfm K a.C_Mixer "learn" "Mixer.learn" s_Mixer_learn ["self", "chances", "bit"] a.f_Mixer_learn a.d_Mixer_learn
  y_Foreteller___init__ : Dfm K a.C_Foreteller "__init__" "Foreteller.__init__" s_Foreteller___init__ ["self", "looks"] a.f_Foreteller___init__ a.d_Foreteller___init__
  y_Foreteller_arrive : Dfm K a.C_Foreteller "arrive" "Foreteller.arrive" s_Foreteller_arrive ["self"] a.f_Foreteller_arrive a.d_Foreteller_arrive
  y_Foreteller_chances : Dfm K a.C_Foreteller "chances" "Foreteller.chances" s_Foreteller_chances ["self"] a.f_Foreteller_chances a.d_Foreteller_chances
  y_Foreteller_chance : Dfm K a.C_Foreteller "chance" "Foreteller.chance" s_Foreteller_chance ["self"] a.f_Foreteller_chance a.d_Foreteller_chance
  y_Foreteller_weights : Dfm K a.C_Foreteller "weights" "Foreteller.weights" s_Foreteller_weights ["self"] a.f_Foreteller_weights a.d_Foreteller_weights
  y_Foreteller_node : Dfm K a.C_Foreteller "node" "Foreteller.node" s_Foreteller_node ["self"] a.f_Foreteller_node a.d_Foreteller_node
  y_Foreteller_signs : Dfm K a.C_Foreteller "signs" "Foreteller.signs" s_Foreteller_signs ["self"] a.f_Foreteller_signs a.d_Foreteller_signs
  y_Foreteller_see : Dfm K a.C_Foreteller "see" "Foreteller.see" s_Foreteller_see ["self", "bit"] a.f_Foreteller_see a.d_Foreteller_see
  y_Foreteller_step : Dfm K a.C_Foreteller "step" "Foreteller.step" s_Foreteller_step ["self", "bit"] a.f_Foreteller_step a.d_Foreteller_step
  y_Foreteller_step_in_sign : Dfm K a.C_Foreteller "step_in_sign" "Foreteller.step_in_sign" s_Foreteller_step_in_sign ["self", "bit"] a.f_Foreteller_step_in_sign a.d_Foreteller_step_in_sign
  y__law_cell_at : Dff K mg "_law_cell_at" s__law_cell_at ["_law_script", "_law_k"] a.f__law_cell_at a.d__law_cell_at
  y__law_look : Dff K mg "_law_look" s__law_look ["_law_cell"] a.f__law_look a.d__law_look
  y__law_looks : Dff K mg "_law_looks" s__law_looks ["_law_script"] a.f__law_looks a.d__law_looks
  y__law_sign : Dff K mg "_law_sign" s__law_sign ["_law_cell", "_law_first"] a.f__law_sign a.d__law_sign
  y__law_text : Dff K mg "_law_text" s__law_text ["_law_script", "_law_at", "_law_many"] a.f__law_text a.d__law_text
  y__law_bits : Dff K mg "_law_bits" s__law_bits ["_law_text_here"] a.f__law_bits a.d__law_bits
  y__law_learnt : Dff K mg "_law_learnt" s__law_learnt ["_law_weights", "_law_chances", "_law_bit"] a.f__law_learnt a.d__law_learnt
  y__law_context : Dff K mg "_law_context" s__law_context ["_law_places", "_law_signs", "_law_node"] a.f__law_context a.d__law_context
  y__law_slots : Dff K mg "_law_slots" s__law_slots ["_law_looks_here", "_law_slots_here", "_law_signs", "_law_node"] a.f__law_slots a.d__law_slots
  y__law_mixed : Dff K mg "_law_mixed" s__law_mixed ["_law_weights", "_law_chances"] a.f__law_mixed a.d__law_mixed
  y__law_seen : Dff K mg "_law_seen" s__law_seen ["_law_foreteller", "_law_looks_here", "_law_slots_here", "_law_weights", "_law_text_here"] a.f__law_seen a.d__law_seen
  y_law : Dff K mg "law" s_law ["_law_script"] a.f_law a.d_law
  cl_Even : Cls K a.C_Even
  m_Even : mg "Even" = some (.ref a.C_Even)
  k_Even : Mk K a.C_Even a.f_Even___init__
  n_Even_noughts : NoAttr K a.C_Even "noughts"
  n_Even_ones : NoAttr K a.C_Even "ones"
  cl_Quick : Cls K a.C_Quick
  m_Quick : mg "Quick" = some (.ref a.C_Quick)
  k_Quick : Mk K a.C_Quick a.f_Quick___init__
  n_Quick_held : NoAttr K a.C_Quick "held"
  cl_Run : Cls K a.C_Run
  m_Run : mg "Run" = some (.ref a.C_Run)
  k_Run : Mk K a.C_Run a.f_Run___init__
  n_Run_last : NoAttr K a.C_Run "last"
  n_Run_length : NoAttr K a.C_Run "length"
  cl_Mixer : Cls K a.C_Mixer
  m_Mixer : mg "Mixer" = some (.ref a.C_Mixer)
  k_Mixer : Mk K a.C_Mixer a.f_Mixer___init__
  n_Mixer_kept : NoAttr K a.C_Mixer "kept"
  cl_Book : Cls K a.C_Book
  m_Book : mg "Book" = some (.ref a.C_Book)
  k_Book : Mk K a.C_Book a.f_Book___init__
  n_Book_look : NoAttr K a.C_Book "look"
  n_Book_slots : NoAttr K a.C_Book "slots"
  cl_Foreteller : Cls K a.C_Foreteller
  m_Foreteller : mg "Foreteller" = some (.ref a.C_Foreteller)
  k_Foreteller : Mk K a.C_Foreteller a.f_Foreteller___init__
  n_Foreteller_looks : NoAttr K a.C_Foreteller "looks"
  n_Foreteller_books : NoAttr K a.C_Foreteller "books"
  n_Foreteller_mixer : NoAttr K a.C_Foreteller "mixer"
  n_Foreteller_ended : NoAttr K a.C_Foreteller "ended"
  n_Foreteller_place : NoAttr K a.C_Foreteller "place"
  n_Foreteller_present : NoAttr K a.C_Foreteller "present"
  m_NoChance : mg "NoChance" = some (.ref a.C_NoChance)
  m_NoBit : mg "NoBit" = some (.ref a.C_NoBit)
  m_NoLooks : mg "NoLooks" = some (.ref a.C_NoLooks)
  x_NoChance : XCls K a.C_NoChance
  r_NoChance : XMk K a.C_NoChance
  x_NoBit : XCls K a.C_NoBit
  r_NoBit : XMk K a.C_NoBit
  x_NoLooks : XCls K a.C_NoLooks
  r_NoLooks : XMk K a.C_NoLooks
  z_isinstance : mg "isinstance" = none
  z_int : mg "int" = none
  z_bool : mg "bool" = none
  z_min : mg "min" = none
  z_max : mg "max" = none
  z_str : mg "str" = none
  z_all : mg "all" = none
  z_tuple : mg "tuple" = none
  z_len : mg "len" = none
  z_zip : mg "zip" = none
  z_list : mg "list" = none
  z_sum : mg "sum" = none
  z_range : mg "range" = none
  c_LEAST : mg "LEAST" = some (.int 32768 a.t_LEAST)
  c_ONE : mg "ONE" = some (.int 16777216 a.t_ONE)
  c_MOST_COUNTED : mg "MOST_COUNTED" = some (.int 255 a.t_MOST_COUNTED)
  c_FARTHEST : mg "FARTHEST" = some (.int 8 a.t_FARTHEST)
  c_MOST_PLACES : mg "MOST_PLACES" = some (.int 4 a.t_MOST_PLACES)
  c_MOST_LOOKS : mg "MOST_LOOKS" = some (.int 6 a.t_MOST_LOOKS)
  c_NO_SIGN : mg "NO_SIGN" = some (.int 256 a.t_NO_SIGN)
  c_FIRST_WEIGHT : mg "FIRST_WEIGHT" = some (.int 1099511627776 a.t_FIRST_WEIGHT)
  c_OWN_PARTS : mg "OWN_PARTS" = some (.int 31 a.t_OWN_PARTS)
  c_MOST_FIGURES : mg "MOST_FIGURES" = some (.int 48 a.t_MOST_FIGURES)
  c_NODES_END : mg "NODES_END" = some (.int 256 a.t_NODES_END)
  m_KINDS : mg "KINDS" = some (.ref a.W_KINDS)
  w_KINDS : ∀ H, SqT K H a.W_KINDS [V.str "even", V.str "quick", V.str "run"]
section
variable {P : Program} {w : World} {K : PySem.W.Frag} {mg : Str → Option Value} {base : Heap} {a : Ads}
def F_Even (v0 v1 : V) : List (Str × V) := [("noughts", v0), ("ones", v1)]
section
variable {H : Hp} {p dx : Addr} {v0 v1 v : V} {P : V → Prop} {R : Prop} {nx : St → Hp → Prop} {σ : St}
section
variable (T : Txt K mg a) (hp : H p = some (.ins a.C_Even dx (F_Even v0 v1)))
include T hp
theorem rd_Even_noughts (h : P v0) : RdX K H p "noughts" P := rdX hp T.cl_Even T.n_Even_noughts lk_hd h
theorem st_Even_noughts (h : After nx σ (upd H p (.ins a.C_Even dx (F_Even v v1)))) : StX K H p "noughts" v nx σ := stX hp T.cl_Even T.n_Even_noughts lt2 pf_hd h
theorem rd_Even_ones (h : P v1) : RdX K H p "ones" P := rdX hp T.cl_Even T.n_Even_ones (lk_tl (by decide +kernel) lk_hd) h
theorem st_Even_ones (h : After nx σ (upd H p (.ins a.C_Even dx (F_Even v0 v)))) : StX K H p "ones" v nx σ := stX hp T.cl_Even T.n_Even_ones lt2 (pf_tl (by decide +kernel) pf_hd) h
end
theorem s0_Even_noughts (T : Txt K mg a) (hp : H p = some (.ins a.C_Even dx [])) (h : After nx σ (upd H p (.ins a.C_Even dx [("noughts", v)]))) : StX K H p "noughts" v nx σ := stX hp T.cl_Even T.n_Even_noughts lt0 pf_nil h
theorem s0_Even_ones (T : Txt K mg a) (hp : H p = some (.ins a.C_Even dx [("noughts", v0)])) (h : After nx σ (upd H p (.ins a.C_Even dx (F_Even v0 v)))) : StX K H p "ones" v nx σ := stX hp T.cl_Even T.n_Even_ones lt1 (pf_tl (by decide +kernel) pf_nil) h
theorem nk_Even_chance : (F_Even v0 v1).lookup ("chance" : Str) = none := (lk_tl (by decide +kernel) (lk_tl (by decide +kernel) lk_nil))
theorem nk_Even_seen : (F_Even v0 v1).lookup ("seen" : Str) = none := (lk_tl (by decide +kernel) (lk_tl (by decide +kernel) lk_nil))
theorem mt_Even {C : Addr} {nm : Str} (hp : H p = some (.ins C dx (F_Even v0 v1))) (n : nm ∉ (["noughts", "ones"] : List Str)) (h : R) : MtX H p C nm R := mtX hp rfl n h
end
local macro_rules | `(tactic| walk_at "rd1") => `(tactic| first
  | (with_reducible refine' rd_Even_noughts (by assumption) ?q ?_; (case q => first | assumption | exact upd_same))
  | (with_reducible refine' st_Even_noughts (by assumption) ?q ?_; (case q => first | assumption | exact upd_same))
  | (with_reducible refine' s0_Even_noughts (by assumption) ?q ?_; (case q => first | assumption | exact upd_same))
  | (with_reducible refine' rd_Even_ones (by assumption) ?q ?_; (case q => first | assumption | exact upd_same))
  | (with_reducible refine' st_Even_ones (by assumption) ?q ?_; (case q => first | assumption | exact upd_same))
  | (with_reducible refine' s0_Even_ones (by assumption) ?q ?_; (case q => first | assumption | exact upd_same))
  | (with_reducible refine' mt_Even ?q ?n ?_; (case q => first | assumption | exact upd_same); (case n => with_unfolding_all decide +kernel))
)
def F_Quick (v0 : V) : List (Str × V) := [("held", v0)]
section
variable {H : Hp} {p dx : Addr} {v0 v : V} {P : V → Prop} {R : Prop} {nx : St → Hp → Prop} {σ : St}
section
variable (T : Txt K mg a) (hp : H p = some (.ins a.C_Quick dx (F_Quick v0)))
include T hp
theorem rd_Quick_held (h : P v0) : RdX K H p "held" P := rdX hp T.cl_Quick T.n_Quick_held lk_hd h
theorem st_Quick_held (h : After nx σ (upd H p (.ins a.C_Quick dx (F_Quick v)))) : StX K H p "held" v nx σ := stX hp T.cl_Quick T.n_Quick_held lt1 pf_hd h
end
theorem s0_Quick_held (T : Txt K mg a) (hp : H p = some (.ins a.C_Quick dx [])) (h : After nx σ (upd H p (.ins a.C_Quick dx (F_Quick v)))) : StX K H p "held" v nx σ := stX hp T.cl_Quick T.n_Quick_held lt0 pf_nil h
theorem nk_Quick_chance : (F_Quick v0).lookup ("chance" : Str) = none := (lk_tl (by decide +kernel) lk_nil)
theorem nk_Quick_seen : (F_Quick v0).lookup ("seen" : Str) = none := (lk_tl (by decide +kernel) lk_nil)
theorem mt_Quick {C : Addr} {nm : Str} (hp : H p = some (.ins C dx (F_Quick v0))) (n : nm ∉ (["held"] : List Str)) (h : R) : MtX H p C nm R := mtX hp rfl n h
end
local macro_rules | `(tactic| walk_at "rd1") => `(tactic| first
  | (with_reducible refine' rd_Quick_held (by assumption) ?q ?_; (case q => first | assumption | exact upd_same))
  | (with_reducible refine' st_Quick_held (by assumption) ?q ?_; (case q => first | assumption | exact upd_same))
  | (with_reducible refine' s0_Quick_held (by assumption) ?q ?_; (case q => first | assumption | exact upd_same))
  | (with_reducible refine' mt_Quick ?q ?n ?_; (case q => first | assumption | exact upd_same); (case n => with_unfolding_all decide +kernel))
)
def F_Run (v0 v1 : V) : List (Str × V) := [("last", v0), ("length", v1)]
section
variable {H : Hp} {p dx : Addr} {v0 v1 v : V} {P : V → Prop} {R : Prop} {nx : St → Hp → Prop} {σ : St}
section
variable (T : Txt K mg a) (hp : H p = some (.ins a.C_Run dx (F_Run v0 v1)))
include T hp
theorem rd_Run_last (h : P v0) : RdX K H p "last" P := rdX hp T.cl_Run T.n_Run_last lk_hd h
theorem st_Run_last (h : After nx σ (upd H p (.ins a.C_Run dx (F_Run v v1)))) : StX K H p "last" v nx σ := stX hp T.cl_Run T.n_Run_last lt2 pf_hd h
theorem rd_Run_length (h : P v1) : RdX K H p "length" P := rdX hp T.cl_Run T.n_Run_length (lk_tl (by decide +kernel) lk_hd) h
theorem st_Run_length (h : After nx σ (upd H p (.ins a.C_Run dx (F_Run v0 v)))) : StX K H p "length" v nx σ := stX hp T.cl_Run T.n_Run_length lt2 (pf_tl (by decide +kernel) pf_hd) h
end
theorem s0_Run_last (T : Txt K mg a) (hp : H p = some (.ins a.C_Run dx [])) (h : After nx σ (upd H p (.ins a.C_Run dx [("last", v)]))) : StX K H p "last" v nx σ := stX hp T.cl_Run T.n_Run_last lt0 pf_nil h
theorem s0_Run_length (T : Txt K mg a) (hp : H p = some (.ins a.C_Run dx [("last", v0)])) (h : After nx σ (upd H p (.ins a.C_Run dx (F_Run v0 v)))) : StX K H p "length" v nx σ := stX hp T.cl_Run T.n_Run_length lt1 (pf_tl (by decide +kernel) pf_nil) h
theorem nk_Run_chance : (F_Run v0 v1).lookup ("chance" : Str) = none := (lk_tl (by decide +kernel) (lk_tl (by decide +kernel) lk_nil))
theorem nk_Run_seen : (F_Run v0 v1).lookup ("seen" : Str) = none := (lk_tl (by decide +kernel) (lk_tl (by decide +kernel) lk_nil))
theorem mt_Run {C : Addr} {nm : Str} (hp : H p = some (.ins C dx (F_Run v0 v1))) (n : nm ∉ (["last", "length"] : List Str)) (h : R) : MtX H p C nm R := mtX hp rfl n h
end
local macro_rules | `(tactic| walk_at "rd1") => `(tactic| first
  | (with_reducible refine' rd_Run_last (by assumption) ?q ?_; (case q => first | assumption | exact upd_same))
  | (with_reducible refine' st_Run_last (by assumption) ?q ?_; (case q => first | assumption | exact upd_same))
  | (with_reducible refine' s0_Run_last (by assumption) ?q ?_; (case q => first | assumption | exact upd_same))
  | (with_reducible refine' rd_Run_length (by assumption) ?q ?_; (case q => first | assumption | exact upd_same))
  | (with_reducible refine' st_Run_length (by assumption) ?q ?_; (case q => first | assumption | exact upd_same))
  | (with_reducible refine' s0_Run_length (by assumption) ?q ?_; (case q => first | assumption | exact upd_same))
  | (with_reducible refine' mt_Run ?q ?n ?_; (case q => first | assumption | exact upd_same); (case n => with_unfolding_all decide +kernel))
)
def F_Mixer (v0 : V) : List (Str × V) := [("kept", v0)]
section
variable {H : Hp} {p dx : Addr} {v0 v : V} {P : V → Prop} {R : Prop} {nx : St → Hp → Prop} {σ : St}
section
variable (T : Txt K mg a) (hp : H p = some (.ins a.C_Mixer dx (F_Mixer v0)))
include T hp
theorem rd_Mixer_kept (h : P v0) : RdX K H p "kept" P := rdX hp T.cl_Mixer T.n_Mixer_kept lk_hd h
theorem st_Mixer_kept (h : After nx σ (upd H p (.ins a.C_Mixer dx (F_Mixer v)))) : StX K H p "kept" v nx σ := stX hp T.cl_Mixer T.n_Mixer_kept lt1 pf_hd h
end
theorem s0_Mixer_kept (T : Txt K mg a) (hp : H p = some (.ins a.C_Mixer dx [])) (h : After nx σ (upd H p (.ins a.C_Mixer dx (F_Mixer v)))) : StX K H p "kept" v nx σ := stX hp T.cl_Mixer T.n_Mixer_kept lt0 pf_nil h
theorem mt_Mixer {C : Addr} {nm : Str} (hp : H p = some (.ins C dx (F_Mixer v0))) (n : nm ∉ (["kept"] : List Str)) (h : R) : MtX H p C nm R := mtX hp rfl n h
end
local macro_rules | `(tactic| walk_at "rd1") => `(tactic| first
  | (with_reducible refine' rd_Mixer_kept (by assumption) ?q ?_; (case q => first | assumption | exact upd_same))
  | (with_reducible refine' st_Mixer_kept (by assumption) ?q ?_; (case q => first | assumption | exact upd_same))
  | (with_reducible refine' s0_Mixer_kept (by assumption) ?q ?_; (case q => first | assumption | exact upd_same))
  | (with_reducible refine' mt_Mixer ?q ?n ?_; (case q => first | assumption | exact upd_same); (case n => with_unfolding_all decide +kernel))
)
def F_Book (v0 v1 : V) : List (Str × V) := [("look", v0), ("slots", v1)]
section
variable {H : Hp} {p dx : Addr} {v0 v1 v : V} {P : V → Prop} {R : Prop} {nx : St → Hp → Prop} {σ : St}
section
variable (T : Txt K mg a) (hp : H p = some (.ins a.C_Book dx (F_Book v0 v1)))
include T hp
theorem rd_Book_look (h : P v0) : RdX K H p "look" P := rdX hp T.cl_Book T.n_Book_look lk_hd h
theorem st_Book_look (h : After nx σ (upd H p (.ins a.C_Book dx (F_Book v v1)))) : StX K H p "look" v nx σ := stX hp T.cl_Book T.n_Book_look lt2 pf_hd h
theorem rd_Book_slots (h : P v1) : RdX K H p "slots" P := rdX hp T.cl_Book T.n_Book_slots (lk_tl (by decide +kernel) lk_hd) h
theorem st_Book_slots (h : After nx σ (upd H p (.ins a.C_Book dx (F_Book v0 v)))) : StX K H p "slots" v nx σ := stX hp T.cl_Book T.n_Book_slots lt2 (pf_tl (by decide +kernel) pf_hd) h
end
theorem s0_Book_look (T : Txt K mg a) (hp : H p = some (.ins a.C_Book dx [])) (h : After nx σ (upd H p (.ins a.C_Book dx [("look", v)]))) : StX K H p "look" v nx σ := stX hp T.cl_Book T.n_Book_look lt0 pf_nil h
theorem s0_Book_slots (T : Txt K mg a) (hp : H p = some (.ins a.C_Book dx [("look", v0)])) (h : After nx σ (upd H p (.ins a.C_Book dx (F_Book v0 v)))) : StX K H p "slots" v nx σ := stX hp T.cl_Book T.n_Book_slots lt1 (pf_tl (by decide +kernel) pf_nil) h
theorem mt_Book {C : Addr} {nm : Str} (hp : H p = some (.ins C dx (F_Book v0 v1))) (n : nm ∉ (["look", "slots"] : List Str)) (h : R) : MtX H p C nm R := mtX hp rfl n h
end
local macro_rules | `(tactic| walk_at "rd1") => `(tactic| first
  | (with_reducible refine' rd_Book_look (by assumption) ?q ?_; (case q => first | assumption | exact upd_same))
  | (with_reducible refine' st_Book_look (by assumption) ?q ?_; (case q => first | assumption | exact upd_same))
  | (with_reducible refine' s0_Book_look (by assumption) ?q ?_; (case q => first | assumption | exact upd_same))
  | (with_reducible refine' rd_Book_slots (by assumption) ?q ?_; (case q => first | assumption | exact upd_same))
  | (with_reducible refine' st_Book_slots (by assumption) ?q ?_; (case q => first | assumption | exact upd_same))
  | (with_reducible refine' s0_Book_slots (by assumption) ?q ?_; (case q => first | assumption | exact upd_same))
  | (with_reducible refine' mt_Book ?q ?n ?_; (case q => first | assumption | exact upd_same); (case n => with_unfolding_all decide +kernel))
)
def F_Foreteller (v0 v1 v2 v3 v4 v5 : V) : List (Str × V) := [("looks", v0), ("books", v1), ("mixer", v2), ("ended", v3), ("place", v4), ("present", v5)]
section
variable {H : Hp} {p dx : Addr} {v0 v1 v2 v3 v4 v5 v : V} {P : V → Prop} {R : Prop} {nx : St → Hp → Prop} {σ : St}
section
variable (T : Txt K mg a) (hp : H p = some (.ins a.C_Foreteller dx (F_Foreteller v0 v1 v2 v3 v4 v5)))
include T hp
theorem rd_Foreteller_looks (h : P v0) : RdX K H p "looks" P := rdX hp T.cl_Foreteller T.n_Foreteller_looks lk_hd h
theorem st_Foreteller_looks (h : After nx σ (upd H p (.ins a.C_Foreteller dx (F_Foreteller v v1 v2 v3 v4 v5)))) : StX K H p "looks" v nx σ := stX hp T.cl_Foreteller T.n_Foreteller_looks lt6 pf_hd h
theorem rd_Foreteller_books (h : P v1) : RdX K H p "books" P := rdX hp T.cl_Foreteller T.n_Foreteller_books (lk_tl (by decide +kernel) lk_hd) h
theorem st_Foreteller_books (h : After nx σ (upd H p (.ins a.C_Foreteller dx (F_Foreteller v0 v v2 v3 v4 v5)))) : StX K H p "books" v nx σ := stX hp T.cl_Foreteller T.n_Foreteller_books lt6 (pf_tl (by decide +kernel) pf_hd) h
theorem rd_Foreteller_mixer (h : P v2) : RdX K H p "mixer" P := rdX hp T.cl_Foreteller T.n_Foreteller_mixer (lk_tl (by decide +kernel) (lk_tl (by decide +kernel) lk_hd)) h
theorem st_Foreteller_mixer (h : After nx σ (upd H p (.ins a.C_Foreteller dx (F_Foreteller v0 v1 v v3 v4 v5)))) : StX K H p "mixer" v nx σ := stX hp T.cl_Foreteller T.n_Foreteller_mixer lt6 (pf_tl (by decide +kernel) (pf_tl (by decide +kernel) pf_hd)) h
theorem rd_Foreteller_ended (h : P v3) : RdX K H p "ended" P := rdX hp T.cl_Foreteller T.n_Foreteller_ended (lk_tl (by decide +kernel) (lk_tl (by decide +kernel) (lk_tl (by decide +kernel) lk_hd))) h
theorem st_Foreteller_ended (h : After nx σ (upd H p (.ins a.C_Foreteller dx (F_Foreteller v0 v1 v2 v v4 v5)))) : StX K H p "ended" v nx σ := stX hp T.cl_Foreteller T.n_Foreteller_ended lt6 (pf_tl (by decide +kernel) (pf_tl (by decide +kernel) (pf_tl (by decide +kernel) pf_hd))) h
theorem rd_Foreteller_place (h : P v4) : RdX K H p "place" P := rdX hp T.cl_Foreteller T.n_Foreteller_place (lk_tl (by decide +kernel) (lk_tl (by decide +kernel) (lk_tl (by decide +kernel) (lk_tl (by decide +kernel) lk_hd)))) h
theorem st_Foreteller_place (h : After nx σ (upd H p (.ins a.C_Foreteller dx (F_Foreteller v0 v1 v2 v3 v v5)))) : StX K H p "place" v nx σ := stX hp T.cl_Foreteller T.n_Foreteller_place lt6 (pf_tl (by decide +kernel) (pf_tl (by decide +kernel) (pf_tl (by decide +kernel) (pf_tl (by decide +kernel) pf_hd)))) h
theorem rd_Foreteller_present (h : P v5) : RdX K H p "present" P := rdX hp T.cl_Foreteller T.n_Foreteller_present (lk_tl (by decide +kernel) (lk_tl (by decide +kernel) (lk_tl (by decide +kernel) (lk_tl (by decide +kernel) (lk_tl (by decide +kernel) lk_hd))))) h
theorem st_Foreteller_present (h : After nx σ (upd H p (.ins a.C_Foreteller dx (F_Foreteller v0 v1 v2 v3 v4 v)))) : StX K H p "present" v nx σ := stX hp T.cl_Foreteller T.n_Foreteller_present lt6 (pf_tl (by decide +kernel) (pf_tl (by decide +kernel) (pf_tl (by decide +kernel) (pf_tl (by decide +kernel) (pf_tl (by decide +kernel) pf_hd))))) h
end
theorem s0_Foreteller_looks (T : Txt K mg a) (hp : H p = some (.ins a.C_Foreteller dx [])) (h : After nx σ (upd H p (.ins a.C_Foreteller dx [("looks", v)]))) : StX K H p "looks" v nx σ := stX hp T.cl_Foreteller T.n_Foreteller_looks lt0 pf_nil h
theorem s0_Foreteller_books (T : Txt K mg a) (hp : H p = some (.ins a.C_Foreteller dx [("looks", v0)])) (h : After nx σ (upd H p (.ins a.C_Foreteller dx [("looks", v0), ("books", v)]))) : StX K H p "books" v nx σ := stX hp T.cl_Foreteller T.n_Foreteller_books lt1 (pf_tl (by decide +kernel) pf_nil) h
theorem s0_Foreteller_mixer (T : Txt K mg a) (hp : H p = some (.ins a.C_Foreteller dx [("looks", v0), ("books", v1)])) (h : After nx σ (upd H p (.ins a.C_Foreteller dx [("looks", v0), ("books", v1), ("mixer", v)]))) : StX K H p "mixer" v nx σ := stX hp T.cl_Foreteller T.n_Foreteller_mixer lt2 (pf_tl (by decide +kernel) (pf_tl (by decide +kernel) pf_nil)) h
theorem s0_Foreteller_ended (T : Txt K mg a) (hp : H p = some (.ins a.C_Foreteller dx [("looks", v0), ("books", v1), ("mixer", v2)])) (h : After nx σ (upd H p (.ins a.C_Foreteller dx [("looks", v0), ("books", v1), ("mixer", v2), ("ended", v)]))) : StX K H p "ended" v nx σ := stX hp T.cl_Foreteller T.n_Foreteller_ended lt3 (pf_tl (by decide +kernel) (pf_tl (by decide +kernel) (pf_tl (by decide +kernel) pf_nil))) h
theorem s0_Foreteller_place (T : Txt K mg a) (hp : H p = some (.ins a.C_Foreteller dx [("looks", v0), ("books", v1), ("mixer", v2), ("ended", v3)])) (h : After nx σ (upd H p (.ins a.C_Foreteller dx [("looks", v0), ("books", v1), ("mixer", v2), ("ended", v3), ("place", v)]))) : StX K H p "place" v nx σ := stX hp T.cl_Foreteller T.n_Foreteller_place lt4 (pf_tl (by decide +kernel) (pf_tl (by decide +kernel) (pf_tl (by decide +kernel) (pf_tl (by decide +kernel) pf_nil)))) h
theorem s0_Foreteller_present (T : Txt K mg a) (hp : H p = some (.ins a.C_Foreteller dx [("looks", v0), ("books", v1), ("mixer", v2), ("ended", v3), ("place", v4)])) (h : After nx σ (upd H p (.ins a.C_Foreteller dx (F_Foreteller v0 v1 v2 v3 v4 v)))) : StX K H p "present" v nx σ := stX hp T.cl_Foreteller T.n_Foreteller_present lt5 (pf_tl (by decide +kernel) (pf_tl (by decide +kernel) (pf_tl (by decide +kernel) (pf_tl (by decide +kernel) (pf_tl (by decide +kernel) pf_nil))))) h
theorem mt_Foreteller {C : Addr} {nm : Str} (hp : H p = some (.ins C dx (F_Foreteller v0 v1 v2 v3 v4 v5))) (n : nm ∉ (["looks", "books", "mixer", "ended", "place", "present"] : List Str)) (h : R) : MtX H p C nm R := mtX hp rfl n h
end
local macro_rules | `(tactic| walk_at "rd1") => `(tactic| first
  | (with_reducible refine' rd_Foreteller_looks (by assumption) ?q ?_; (case q => first | assumption | exact upd_same))
  | (with_reducible refine' st_Foreteller_looks (by assumption) ?q ?_; (case q => first | assumption | exact upd_same))
  | (with_reducible refine' s0_Foreteller_looks (by assumption) ?q ?_; (case q => first | assumption | exact upd_same))
  | (with_reducible refine' rd_Foreteller_books (by assumption) ?q ?_; (case q => first | assumption | exact upd_same))
  | (with_reducible refine' st_Foreteller_books (by assumption) ?q ?_; (case q => first | assumption | exact upd_same))
  | (with_reducible refine' s0_Foreteller_books (by assumption) ?q ?_; (case q => first | assumption | exact upd_same))
  | (with_reducible refine' rd_Foreteller_mixer (by assumption) ?q ?_; (case q => first | assumption | exact upd_same))
  | (with_reducible refine' st_Foreteller_mixer (by assumption) ?q ?_; (case q => first | assumption | exact upd_same))
  | (with_reducible refine' s0_Foreteller_mixer (by assumption) ?q ?_; (case q => first | assumption | exact upd_same))
  | (with_reducible refine' rd_Foreteller_ended (by assumption) ?q ?_; (case q => first | assumption | exact upd_same))
  | (with_reducible refine' st_Foreteller_ended (by assumption) ?q ?_; (case q => first | assumption | exact upd_same))
  | (with_reducible refine' s0_Foreteller_ended (by assumption) ?q ?_; (case q => first | assumption | exact upd_same))
  | (with_reducible refine' rd_Foreteller_place (by assumption) ?q ?_; (case q => first | assumption | exact upd_same))
  | (with_reducible refine' st_Foreteller_place (by assumption) ?q ?_; (case q => first | assumption | exact upd_same))
  | (with_reducible refine' s0_Foreteller_place (by assumption) ?q ?_; (case q => first | assumption | exact upd_same))
  | (with_reducible refine' rd_Foreteller_present (by assumption) ?q ?_; (case q => first | assumption | exact upd_same))
  | (with_reducible refine' st_Foreteller_present (by assumption) ?q ?_; (case q => first | assumption | exact upd_same))
  | (with_reducible refine' s0_Foreteller_present (by assumption) ?q ?_; (case q => first | assumption | exact upd_same))
  | (with_reducible refine' mt_Foreteller ?q ?n ?_; (case q => first | assumption | exact upd_same); (case n => with_unfolding_all decide +kernel))
)
open SpanMath
/-- all but p stands as it stood -/
def But (p : Addr) (H H' : Hp) : Prop := ∀ b o, H b = some o → b ≠ p → H' b = some o
theorem But.refl {p : Addr} {H : Hp} : But p H H := fun _ _ h _ => h
theorem But.of {p : Addr} {H H' : Hp} (s : Same H H') : But p H H' := fun b o h _ => s b o h
theorem But.trans {p : Addr} {H H1 H2 : Hp} (x : But p H H1) (y : But p H1 H2) : But p H H2 := fun b o h n => y b o (x b o h n) n
theorem But.upd {p : Addr} {H : Hp} {o : HO} : But p H (L2.upd H p o) := fun b u h n => by rw [upd_ne n]; exact h
theorem But.seq {K : PySem.W.Frag} {p l C dx : Addr} {fs : List (Str × V)} {H H' : Hp} {xs : List V} (e : But p H H') (hp : H p = some (.ins C dx fs)) (h : SqL K H l xs) : SqL K H' l xs := by
  rcases h with (h | ⟨o, h⟩) | h
  · exact .inl (.inl (e _ _ h (ne_of h hp (by intro z; cases z))))
  · exact .inl (.inr ⟨o, e _ _ h (ne_of h hp (by intro z; cases z))⟩)
  · exact .inr h
theorem But.tup {p l C dx : Addr} {fs : List (Str × V)} {H H' : Hp} {xs : List V} (e : But p H H') (hp : H p = some (.ins C dx fs)) (h : H l = some (.tup xs)) : H' l = some (.tup xs) := e _ _ h (ne_of h hp (by intro z; cases z))
theorem But.lst {p l C dx : Addr} {fs : List (Str × V)} {H H' : Hp} {xs : List V} (e : But p H H') (hp : H p = some (.ins C dx fs)) (h : H l = some (.lst xs)) : H' l = some (.lst xs) := e _ _ h (ne_of h hp (by intro z; cases z))
theorem wholeV_int {x : V} (h : wholeV x = true) : ∃ i, x = .int i := by
  cases x with
  | int i => exact ⟨i, rfl⟩
  | _ => cases h
def bitV : V → Bool
  | .int i => decide (0 ≤ i) && decide (i ≤ 1)
  | _ => false
def chV : V → Bool
  | .int i => decide (32768 ≤ i) && decide (i ≤ 16744448)
  | _ => false
/-- a slot: its kind and what it has seen -/
inductive Slt where
  | ev (n o : Int)
  | qk (h : Int)
  | rn (l n : Int)
def Slt.ok : Slt → Prop
  | .ev n o => 0 ≤ n ∧ 0 ≤ o ∧ n + o ≤ 255
  | .qk h => 32768 ≤ h ∧ h ≤ 16744448
  | .rn l n => 0 ≤ l ∧ l ≤ 1 ∧ 0 ≤ n ∧ n ≤ 255
def rnGive (n : Int) : Int := (2 * n + 1) * 16777216 / (2 * n + 2)
def Slt.due : Slt → Int
  | .ev n o => (2 * o + 1) * 16777216 / (2 * (n + o) + 2)
  | .qk h => h
  | .rn l n => if l = 1 then rnGive n else 16777216 - rnGive n
def evSee (n o : Int) : Slt := if 255 < n + o then .ev ((n + 1) / 2) ((o + 1) / 2) else .ev n o
def clampQ (m : Int) : Int := if 16744448 < (if 32768 > m then 32768 else m) then 16744448 else (if 32768 > m then 32768 else m)
def Slt.see : Slt → Int → Slt
  | .ev n o, b => if b = 1 then evSee n (o + 1) else evSee (n + 1) o
  | .qk h, b => .qk (clampQ (if b = 1 then h + (16777216 - h) / 16 else h - h / 16))
  | .rn l n, b => if b = l then .rn l (if 255 < n + 1 then 255 else n + 1) else .rn b 1
def oS (a : Ads) (dx : Addr) : Slt → HO
  | .ev n o => .ins a.C_Even dx (F_Even (.int n) (.int o))
  | .qk h => .ins a.C_Quick dx (F_Quick (.int h))
  | .rn l n => .ins a.C_Run dx (F_Run (.int l) (.int n))
theorem evSee_ok {n o : Int} (h1 : 0 ≤ n) (h2 : 0 ≤ o) (h3 : n + o ≤ 256) : (evSee n o).ok := by
  unfold evSee
  split
  · exact ⟨by omega, by omega, by omega⟩
  · exact ⟨h1, h2, by omega⟩
theorem clampQ_ok (m : Int) : 32768 ≤ clampQ m ∧ clampQ m ≤ 16744448 := by
  unfold clampQ
  split <;> split <;> omega
theorem Slt.see_ok {s : Slt} {b : Int} (h : s.ok) (b0 : 0 ≤ b) (b1 : b ≤ 1) : (s.see b).ok := by
  cases s with
  | ev n o =>
    obtain ⟨h1, h2, h3⟩ := h
    unfold Slt.see
    dsimp only
    split
    · exact evSee_ok h1 (by omega) (by omega)
    · exact evSee_ok (by omega) h2 (by omega)
  | qk h0 => exact clampQ_ok _
  | rn l n =>
    obtain ⟨h1, h2, h3, h4⟩ := h
    unfold Slt.see
    dsimp only
    split
    · refine ⟨h1, h2, ?_, ?_⟩ <;> split <;> omega
    · exact ⟨b0, b1, by decide, by decide⟩
def kdS : Fin 3 → Str
  | 0 => "even"
  | 1 => "quick"
  | 2 => "run"
def kd0 : Fin 3 → Slt
  | 0 => .ev 0 0
  | 1 => .qk 8388608
  | 2 => .rn 1 0
theorem kd0_ok (k : Fin 3) : (kd0 k).ok := by
  match k with
  | 0 => exact ⟨by decide, by decide, by decide⟩
  | 1 => exact ⟨by decide, by decide⟩
  | 2 => exact ⟨by decide, by decide, by decide, by decide⟩
theorem bit_of {b : Int} (b0 : 0 ≤ b) (b1 : b ≤ 1) : bitV (.int b) = true := by
  simp only [bitV, Bool.and_eq_true, decide_eq_true_eq]
  omega
theorem of_bit {x : V} (h : bitV x = true) : ∃ b : Int, x = .int b ∧ 0 ≤ b ∧ b ≤ 1 := by
  cases x with
  | int i =>
    simp only [bitV, Bool.and_eq_true, decide_eq_true_eq] at h
    exact ⟨i, rfl, h.1, h.2⟩
  | _ => cases h
def sp_sinit (C : Addr) (F : List (Str × V)) : Sp := fun vs H Q _ => ∃ (p dx : Addr), vs = [.ref p] ∧ H p = some (.ins C dx []) ∧ ∀ H', H' p = some (.ins C dx F) → But p H H' → Q .non H'
/-- what a slot tells: s of any kind that f knows -/
def sp_schance (o : Addr → Slt → HO) (g : Slt → Prop) : Sp := fun vs H Q _ => ∃ (p dx : Addr) (s : Slt), vs = [.ref p] ∧ g s ∧ s.ok ∧ H p = some (o dx s) ∧ Q (.int s.due) H
def sp_sseen (K : PySem.W.Frag) (o : Addr → Slt → HO) (g : Slt → Prop) (C : Addr) : Sp := fun vs H Q E => ∃ (p dx : Addr) (s : Slt) (x : V) (n : String), vs = [.ref p, x] ∧ g s ∧ s.ok ∧ H p = some (o dx s) ∧ TyOf K H x (.type n) ∧
  (∀ b : Int, x = .int b → 0 ≤ b → b ≤ 1 → ∀ H', H' p = some (o dx (s.see b)) → But p H H' → Q .non H') ∧ (bitV x = false → E (.ref C) none H)
def isEv : Slt → Prop
  | .ev _ _ => True
  | _ => False
def isQk : Slt → Prop
  | .qk _ => True
  | _ => False
def isRn : Slt → Prop
  | .rn _ _ => True
  | _ => False
/-- bits -/
def Bits (bs : List Int) : Prop := ∀ b ∈ bs, 0 ≤ b ∧ b ≤ 1
theorem line_le {n : Nat} (h : n ≤ 16000000) : n ≤ sizeLine := Nat.le_trans h (by decide)
theorem line_lt {n : Nat} (h : n ≤ 16000000) : n < sizeLine := Nat.lt_of_le_of_lt h (by decide)
theorem getInt {ns : List Int} {i : Nat} {x : V} (h : (ns.map V.int)[i]? = some x) : ∃ n, x = .int n ∧ n ∈ ns ∧ ns[i]? = some n ∧ i < ns.length := by
  rw [List.getElem?_map] at h
  cases e : ns[i]? with
  | none => rw [e] at h; cases h
  | some n =>
    rw [e] at h
    have hi : i < ns.length := by
      rcases Nat.lt_or_ge i ns.length with q | q
      · exact q
      · rw [List.getElem?_eq_none q] at e; cases e
    exact ⟨n, (Option.some.inj h).symm, List.mem_of_getElem? e, rfl, hi⟩
theorem take_snocI {l : List Int} {i : Nat} {q : Int} (h : l[i]? = some q) : l.take (i + 1) = l.take i ++ [q] := by
  rw [List.take_add_one, h]
  rfl
theorem bits_app {xs ys : List Int} (h1 : Bits xs) (h2 : Bits ys) : Bits (xs ++ ys) := fun b hb => by
  rcases List.mem_append.mp hb with h | h
  · exact h1 b h
  · exact h2 b h
theorem flat_ints (c : Int) (n : Nat) : (List.replicate n [V.int c]).flatten = (List.replicate n c).map V.int := by
  induction n with
  | zero => rfl
  | succ n ih => rw [List.replicate_succ, List.flatten_cons, ih, List.replicate_succ]; rfl
/-- the sign so many back -/
def back (sg : List Int) (p : Int) : Int := if p ≤ sg.length then (atI sg (-p)).getD 256 else 256
theorem map_atI {α β : Type} (f : α → β) (xs : List α) (i : Int) : atI (xs.map f) i = (atI xs i).map f := by
  unfold atI
  rw [List.length_map]
  cases ixN xs.length i with
  | none => rfl
  | some j =>
    show (xs.map f)[j]? = (xs[j]?).map f
    rw [List.getElem?_map]
theorem atI_back {sg : List Int} {p : Int} (h1 : 1 ≤ p) (h2 : p ≤ sg.length) : ∃ c, atI sg (-p) = some c ∧ c ∈ sg := by
  unfold atI ixN
  rw [if_neg (by omega)]
  by_cases h : -(sg.length : Int) ≤ -p
  · rw [if_pos (by omega)]
    have hj : ((-p + (sg.length : Int)).toNat) < sg.length := by omega
    exact ⟨_, List.getElem?_eq_getElem hj, List.getElem_mem hj⟩
  · omega
def Slt.kind : Slt → Fin 3
  | .ev _ _ => 0
  | .qk _ => 1
  | .rn _ _ => 2
theorem kind_see (s : Slt) (b : Int) : (s.see b).kind = s.kind := by
  cases s with
  | ev n o =>
    unfold Slt.see evSee
    dsimp only
    split <;> split <;> rfl
  | qk h => rfl
  | rn l n =>
    unfold Slt.see
    dsimp only
    split <;> rfl
theorem kind_kd0 (k : Fin 3) : (kd0 k).kind = k := by
  match k with
  | 0 => rfl
  | 1 => rfl
  | 2 => rfl
theorem oS_ins (a : Ads) (dx : Addr) (s : Slt) : ∃ C fs, oS a dx s = .ins C dx fs := by
  cases s <;> exact ⟨_, _, rfl⟩
theorem due_ok {s : Slt} (h : s.ok) : 32768 ≤ s.due ∧ s.due ≤ 16744448 := by
  cases s with
  | ev n o =>
    obtain ⟨h1, h2, h3⟩ := h
    unfold Slt.due
    dsimp only
    have hd : (0 : Int) < 2 * (n + o) + 2 := by omega
    constructor
    · rw [Int.le_ediv_iff_mul_le hd]
      omega
    · have : (2 * o + 1) * 16777216 / (2 * (n + o) + 2) < 16744449 := by
        rw [Int.ediv_lt_iff_lt_mul hd]
        omega
      omega
  | qk h0 => exact h
  | rn l n =>
    obtain ⟨h1, h2, h3, h4⟩ := h
    have hd : (0 : Int) < 2 * n + 2 := by omega
    have g1 : 8388608 ≤ rnGive n := by
      unfold rnGive
      rw [Int.le_ediv_iff_mul_le hd]
      omega
    have g2 : rnGive n < 16744449 := by
      unfold rnGive
      rw [Int.ediv_lt_iff_lt_mul hd]
      omega
    unfold Slt.due
    dsimp only
    split <;> omega
/-- a slot of any of the three kinds is asked, is told a bit -/
theorem i_chance3 {p dx : Addr} {s : Slt} {ta : TE} {σ : St} {H : Hp} {Q : VK} {E1 E2 E3 : XK} (hta : ∀ Q' : VK, Q' (.ref p) H → ta σ H Q') (hp : H p = some (oS a dx s)) (ok : s.ok) (h : Q (.int s.due) H) :
    tAlt (tMeth a.C_Even "chance" (sp_schance (oS a) isEv) [] E1 ta tNil) (tAlt (tMeth a.C_Quick "chance" (sp_schance (oS a) isQk) [] E2 ta tNil) (tMeth a.C_Run "chance" (sp_schance (oS a) isRn) [] E3 ta tNil)) σ H Q := by
  cases s with
  | ev n o => exact i_altL (i_meth (hta _ ⟨p, dx, _, rfl, hp, nk_Even_chance, p, dx, .ev n o, rfl, trivial, ok, hp, h⟩))
  | qk h0 => exact i_altR (i_altL (i_meth (hta _ ⟨p, dx, _, rfl, hp, nk_Quick_chance, p, dx, .qk h0, rfl, trivial, ok, hp, h⟩)))
  | rn l n => exact i_altR (i_altR (i_meth (hta _ ⟨p, dx, _, rfl, hp, nk_Run_chance, p, dx, .rn l n, rfl, trivial, ok, hp, h⟩)))
theorem i_seen3 {p dx : Addr} {s : Slt} {ta : TE} {t : TA} {σ : St} {H : Hp} {Q : VK} {E1 E2 E3 : St → XK} {x : V} {n : String} (hta : ∀ Q' : VK, Q' (.ref p) H → ta σ H Q') (ht : ∀ Q' : List V → Hp → Prop, Q' [x] H → t σ H Q') (hp : H p = some (oS a dx s)) (ok : s.ok) (ty : TyOf K H x (.type n))
    (h : ∀ b : Int, x = .int b → 0 ≤ b → b ≤ 1 → ∀ H', H' p = some (oS a dx (s.see b)) → But p H H' → Q .non H') (h1 : bitV x = false → E1 σ (.ref a.C_NoBit) none H) (h2 : bitV x = false → E2 σ (.ref a.C_NoBit) none H) (h3 : bitV x = false → E3 σ (.ref a.C_NoBit) none H) :
    tAlt (tMethE a.C_Even "seen" (sp_sseen K (oS a) isEv a.C_NoBit) [] E1 ta t) (tAlt (tMethE a.C_Quick "seen" (sp_sseen K (oS a) isQk a.C_NoBit) [] E2 ta t) (tMethE a.C_Run "seen" (sp_sseen K (oS a) isRn a.C_NoBit) [] E3 ta t)) σ H Q := by
  cases s with
  | ev n o => exact i_altL (i_methE (hta _ ⟨p, dx, _, rfl, hp, nk_Even_seen, ht _ ⟨p, dx, .ev n o, x, _, rfl, trivial, ok, hp, ty, h, h1⟩⟩))
  | qk h0 => exact i_altR (i_altL (i_methE (hta _ ⟨p, dx, _, rfl, hp, nk_Quick_seen, ht _ ⟨p, dx, .qk h0, x, _, rfl, trivial, ok, hp, ty, h, h2⟩⟩)))
  | rn l n => exact i_altR (i_altR (i_methE (hta _ ⟨p, dx, _, rfl, hp, nk_Run_seen, ht _ ⟨p, dx, .rn l n, x, _, rfl, trivial, ok, hp, ty, h, h3⟩⟩)))
def gvv (c b : Int) : Int := if b = 1 then c else 16777216 - c
theorem chV_int {x : V} (h : chV x = true) : ∃ c, x = .int c ∧ 32768 ≤ c ∧ c ≤ 16744448 := by
  cases x with
  | int i =>
    simp only [chV, Bool.and_eq_true, decide_eq_true_eq] at h
    exact ⟨i, rfl, h.1, h.2⟩
  | _ => cases h
theorem bitV_int {x : V} (h : bitV x = true) : ∃ b, x = .int b ∧ 0 ≤ b ∧ b ≤ 1 := by
  cases x with
  | int i =>
    simp only [bitV, Bool.and_eq_true, decide_eq_true_eq] at h
    exact ⟨i, rfl, h.1, h.2⟩
  | _ => cases h
theorem chV_of {c : Int} (h : Ch c) : chV (.int c) = true := by
  obtain ⟨h1, h2⟩ := h
  simp only [chV, Bool.and_eq_true, decide_eq_true_eq]
  omega
theorem bitV_of {b : Int} (h1 : 0 ≤ b) (h2 : b ≤ 1) : bitV (.int b) = true := by
  simp only [bitV, Bool.and_eq_true, decide_eq_true_eq]
  omega
/-- an item of a list in bounds -/
theorem atI_any {xs : List V} {i : Int} (h0 : 0 ≤ i) (h1 : i < xs.length) : ∃ v, v ∈ xs ∧ atI xs i = some v := by
  obtain ⟨j, rfl⟩ : ∃ j : Nat, i = (j : Int) := ⟨i.toNat, by omega⟩
  have hj : j < xs.length := by omega
  exact ⟨xs[j], List.getElem_mem hj, atI_nat (List.getElem?_eq_getElem hj)⟩
theorem tysame {K : PySem.W.Frag} {H H' : Hp} {v : V} {n : String} (S : Same H H') (t : TyOf K H v (.type n)) : TyOf K H' v (.type n) := by
  cases t with
  | non => exact .non
  | bl b => exact .bl b
  | int i => exact .int i
  | str x => exact .str x
  | flt x => exact .flt x
  | lst e => exact .lst (S _ _ e)
  | frz e => exact .frz (S _ _ e)
  | tup e => exact .tup (S _ _ e)
  | dK e => exact .dK (S _ _ e)
  | dT e => exact .dT (S _ _ e)
def sgV : V → Bool
  | .int i => decide (0 ≤ i) && decide (i ≤ 255)
  | _ => false
/-- each item is of a plain kind -/
def Typed (K : PySem.W.Frag) (H : Hp) (xs : List V) : Prop := ∀ y ∈ xs, ∃ k : String, TyOf K H y (.type k)
theorem Typed.same {K : PySem.W.Frag} {H H' : Hp} {xs : List V} (t : Law.Typed K H xs) (S : Same H H') : Law.Typed K H' xs := fun y hy => let ⟨k, z⟩ := t y hy; ⟨k, tysame S z⟩
/-- no list of at most m signs -/
def Bad (K : PySem.W.Frag) (H : Hp) (x : V) (n : String) (m : Int) : Prop := n ≠ "list" ∨ ∃ p xs, x = .ref p ∧ H p = some (.lst xs) ∧ Typed K H xs ∧ xs.length ≤ 100000 ∧ (decide ((xs.length : Int) ≤ m) && xs.all sgV) = false
def Good (K : PySem.W.Frag) (H : Hp) (x : V) (xs : List V) (m : Int) : Prop := ∃ p, x = .ref p ∧ H p = some (.lst xs) ∧ Typed K H xs ∧ xs.length ≤ 100000 ∧ (decide ((xs.length : Int) ≤ m) && xs.all sgV) = true
theorem Bad.same {K : PySem.W.Frag} {H H' : Hp} {x : V} {n : String} {m : Int} (h : Law.Bad K H x n m) (S : Same H H') : Law.Bad K H' x n m := by
  rcases h with h | ⟨p, xs, e, hp, t, r⟩
  · exact .inl h
  · exact .inr ⟨p, xs, e, S _ _ hp, t.same S, r⟩
theorem Good.same {K : PySem.W.Frag} {H H' : Hp} {x : V} {xs : List V} {m : Int} (h : Law.Good K H x xs m) (S : Same H H') : Law.Good K H' x xs m := by
  obtain ⟨p, e, hp, t, r⟩ := h
  exact ⟨p, e, S _ _ hp, t.same S, r⟩
def Sgs (ns : List Int) : Prop := ∀ i ∈ ns, 0 ≤ i ∧ i ≤ 255
def wth : List Int := [128, 64, 32, 16, 8, 4, 2, 1]
def b8 (s : Int) : List Int := wth.map (fun w => s / w % 2)
def dec : List Int → List Int
  | [] => [0]
  | s :: r => (1 :: b8 s) ++ dec r
/-- without the end -/
def dec0 : List Int → List Int
  | [] => []
  | s :: r => (1 :: b8 s) ++ dec0 r
theorem dec_0 : ∀ ns, dec ns = dec0 ns ++ [0]
  | [] => rfl
  | s :: r => by simp [dec, dec0, dec_0 r]
theorem dec0_snoc (s : Int) : ∀ ns, dec0 (ns ++ [s]) = dec0 ns ++ (1 :: b8 s)
  | [] => by simp [dec0]
  | t :: r => by simp [dec0, dec0_snoc s r]
theorem b8_len (s : Int) : (b8 s).length = 8 := rfl
theorem dec0_len : ∀ ns : List Int, (dec0 ns).length = 9 * ns.length
  | [] => rfl
  | s :: r => by
    show ((1 :: b8 s) ++ dec0 r).length = 9 * (r.length + 1)
    rw [List.length_append, dec0_len r]
    show 9 + _ = _
    omega
theorem b8_bits (s : Int) : Bits (b8 s) := fun b hb => by
  obtain ⟨w, _, rfl⟩ := List.mem_map.mp hb
  have h0 : 0 ≤ s / w % 2 := Int.emod_nonneg _ (by decide)
  have h1 : s / w % 2 < 2 := Int.emod_lt_of_pos _ (by decide)
  exact ⟨h0, by omega⟩
theorem dec_bits : ∀ ns, Bits (dec ns)
  | [] => fun b hb => by rw [List.mem_singleton.mp hb]; decide
  | s :: r => by
    refine bits_app (fun b hb => ?_) (dec_bits r)
    rcases List.mem_cons.mp hb with rfl | hb
    · decide
    · exact b8_bits s b hb
theorem dec_len (ns : List Int) : (dec ns).length = 9 * ns.length + 1 := by rw [dec_0, List.length_append, dec0_len]; rfl
def updF (f : List Int → Option Slt) (k : List Int) (s : Slt) : List Int → Option Slt := fun j => if j = k then some s else f j
def isOb : HO → Bool
  | .ins _ _ _ => true
  | .dT _ => true
  | _ => false
def kI (k : List Int) : List Key := k.map Sum.inl
theorem kI_map (k : List Int) : (kI k).map kV = k.map V.int := by
  unfold kI
  rw [List.map_map]
  rfl
theorem kI_inj {j k : List Int} (h : kI j = kI k) : j = k := by
  unfold kI at h
  induction j generalizing k with
  | nil =>
    cases k with
    | nil => rfl
    | cons _ _ => cases h
  | cons x r ih =>
    cases k with
    | nil => cases h
    | cons y s =>
      injection h with h1 h2
      injection h1 with h1
      rw [h1, ih h2]
/-- a book's contexts: each once, of numbers -/
def KyOk (H : Hp) (d : Addr) : Prop := ∀ kvs, H d = some (.dT kvs) → (kvs.map (·.1)).Nodup ∧ ∀ q ∈ kvs, ∃ k, q.1 = kI k
theorem KyOk.mv {H H' : Hp} {d : Addr} {kvs : List (List Key × V)} (h : KyOk H d) (h1 : H d = some (.dT kvs)) (h2 : H' d = some (.dT kvs)) : KyOk H' d := fun kvs' e => by
  rw [h2] at e
  cases e
  exact h kvs h1
theorem valV_out {kvs : List (List Key × V)} {k : List Key} (h : valV kvs k = none) : k ∉ kvs.map (·.1) := fun m => by
  obtain ⟨p, hp, e⟩ := List.mem_map.mp m
  have a := valV_any k kvs
  rw [h] at a
  exact List.any_eq_false.mp a p hp (decide_eq_true e)
theorem KyOk.snoc {H' : Hp} {d : Addr} {kvs : List (List Key × V)} {k : List Int} {v : V} (h : (kvs.map (·.1)).Nodup ∧ ∀ q ∈ kvs, ∃ k, q.1 = kI k) (hn : valV kvs (kI k) = none) (h2 : H' d = some (.dT (putK kvs (kI k) v))) : KyOk H' d := fun kvs' e => by
  rw [h2, putK_new _ hn] at e
  cases e
  rw [List.map_append]
  refine ⟨List.nodup_append.mpr ⟨h.1, List.nodup_cons.mpr ⟨List.not_mem_nil, List.nodup_nil⟩, fun x hx y hy z => ?_⟩, fun q hq => ?_⟩
  · rw [z, List.mem_singleton.mp hy] at hx
    exact valV_out hn hx
  · rcases List.mem_append.mp hq with w | w
    · exact h.2 q w
    · rw [List.mem_singleton.mp w]
      exact ⟨k, rfl⟩
/-- a book at p: its look at lk, its dict at d; f: what its slots hold; O: its dict and its slots -/
structure BkAt (a : Ads) (H : Hp) (p dx lk d : Addr) (kd : Fin 3) (f : List Int → Option Slt) (O : Addr → Prop) (m : Nat) : Prop where
  me : H p = some (.ins a.C_Book dx (F_Book (.ref lk) (.ref d)))
  own : ∀ b, O b → ∃ o, H b = some o ∧ isOb o = true
  np : ¬ O p
  dO : O d
  ky : KyOk H d
  tb : ∃ (kvs : List (List Key × V)) (loc : List Int → Addr × Addr), H d = some (.dT kvs) ∧ kvs.length ≤ m ∧ (∀ k, f k = none → valV kvs (kI k) = none) ∧
    (∀ k s, f k = some s → valV kvs (kI k) = some (.ref (loc k).1) ∧ H (loc k).1 = some (oS a (loc k).2 s) ∧ s.ok ∧ s.kind = kd ∧ O (loc k).1) ∧ (∀ k j s t, f k = some s → f j = some t → (loc k).1 = (loc j).1 → k = j)
/-- all but what O has stands as it stood -/
def ButO (O : Addr → Prop) (H H' : Hp) : Prop := ∀ b o, H b = some o → ¬ O b → H' b = some o
section
variable {a : Ads} {H H' : Hp} {p dx lk d : Addr} {kd : Fin 3} {f : List Int → Option Slt} {O : Addr → Prop} {m : Nat}
theorem BkAt.frame (h : BkAt a H p dx lk d kd f O m) {O2 : Addr → Prop} (B : ButO O2 H H') (dj : ∀ b, O b → ¬ O2 b) (hp : ¬ O2 p) : BkAt a H' p dx lk d kd f O m := by
  obtain ⟨kvs, loc, h1, h2, h3, h4, h5⟩ := h.tb
  refine ⟨B _ _ h.me hp, fun b hb => ?_, h.np, h.dO, h.ky.mv h1 (B _ _ h1 (dj _ h.dO)), kvs, loc, B _ _ h1 (dj _ h.dO), h2, h3, fun k s hk => ?_, h5⟩
  · obtain ⟨o, ho, hi⟩ := h.own b hb
    exact ⟨o, B _ _ ho (dj b hb), hi⟩
  · obtain ⟨q1, q2, q3, q4, q5⟩ := h4 k s hk
    exact ⟨q1, B _ _ q2 (dj _ q5), q3, q4, q5⟩
theorem BkAt.same (h : BkAt a H p dx lk d kd f O m) (S : Same H H') : BkAt a H' p dx lk d kd f O m := h.frame (O2 := fun _ => False) (fun b o e _ => S b o e) (fun _ _ z => z) (fun z => z)
theorem BkAt.lst (h : BkAt a H p dx lk d kd f O m) (B : ButO O H H') {l : Addr} {xs : List V} (e : H l = some (.lst xs)) : H' l = some (.lst xs) := B _ _ e fun z => by
  obtain ⟨o, ho, hi⟩ := h.own l z
  rw [e] at ho
  cases ho
  cases hi
theorem BkAt.tup (h : BkAt a H p dx lk d kd f O m) (B : ButO O H H') {l : Addr} {xs : List V} (e : H l = some (.tup xs)) : H' l = some (.tup xs) := B _ _ e fun z => by
  obtain ⟨o, ho, hi⟩ := h.own l z
  rw [e] at ho
  cases ho
  cases hi
end
open MixI
/-- a Mixer with its weights -/
structure MxAt (a : Ads) (p dx l : Addr) (ws : List Int) (H : Hp) : Prop where
  o : H p = some (.ins a.C_Mixer dx (F_Mixer (.ref l)))
  l : H l = some (.lst (ws.map V.int))
theorem MxAt.same {a : Ads} {p dx l : Addr} {ws : List Int} {H H' : Hp} (m : MxAt a p dx l ws H) (S : Same H H') : MxAt a p dx l ws H' := ⟨S _ _ m.o, S _ _ m.l⟩
/-- another Mixer has learned -/
theorem MxAt.but {a : Ads} {p dx l q : Addr} {ws : List Int} {H H' : Hp} (m : MxAt a p dx l ws H) (h : p ≠ q) {C dq : Addr} {fs : List (Str × V)} (hq : H q = some (.ins C dq fs)) (B : But q H H') : MxAt a p dx l ws H' := ⟨B _ _ m.o h, B.lst hq m.l⟩
theorem kit_lstM {K : PySem.W.Frag} {H : Hp} {x : V} {n : String} (ty : TyOf K H x (.type n)) : PySem.W.kitOne K (.type n) (.type "list") = some (decide (n = "list")) := by cases ty <;> rfl
theorem cok_ch {k : Nat} {cs : List Int} (h : COk k cs) {c : Int} (hm : c ∈ cs) : Ch c := ⟨h.lo c hm, h.hi c hm⟩
theorem zrange {g : Int → Int → Int} {ws cs : List Int} (h : cs.length = ws.length) : (List.range (ws.map V.int).length).map (fun i => V.int (g ((ws[i]?).getD 0) ((cs[i]?).getD 0))) = (List.zipWith g ws cs).map V.int := by
  rw [List.length_map, ← zip_range h, List.map_map]
  rfl
theorem some_lst {H : Hp} {D : Addr} {xs ys : List V} (h : H D = some (.lst xs)) (e : xs = ys) : H D = some (.lst ys) := e ▸ h
def sp_mmixed (K : PySem.W.Frag) (a : Ads) : Sp := fun vs H Q _ => ∃ (p dx l c : Addr) (ws cs : List Int) (k : Nat), vs = [.ref p, .ref c] ∧ 1 ≤ k ∧ k ≤ 6 ∧ WOk k ws ∧ COk k cs ∧ MxAt a p dx l ws H ∧ SqL K H c (cs.map V.int) ∧ ∀ H', Same H H' → Q (.int (mixI ws cs)) H'
def sp_mlearn (K : PySem.W.Frag) (a : Ads) (C : Addr) : Sp := fun vs H Q E => ∃ (p dx l c : Addr) (ws cs : List Int) (k : Nat) (x : V) (n : String), vs = [.ref p, .ref c, x] ∧ 1 ≤ k ∧ k ≤ 6 ∧ WOk k ws ∧ COk k cs ∧ MxAt a p dx l ws H ∧ SqL K H c (cs.map V.int) ∧ TyOf K H x (.type n) ∧
  (∀ b : Int, x = .int b → 0 ≤ b → b ≤ 1 → ∀ l' H', H l' = none → MxAt a p dx l' (lrn ws cs b) H' → But p H H' → Q .non H') ∧ (bitV x = false → E (.ref C) none H)
def sp_mweights (a : Ads) : Sp := fun vs H Q _ => ∃ (p dx l : Addr) (ws : List Int), vs = [.ref p] ∧ MxAt a p dx l ws H ∧ ∀ r H', H r = none → H' r = some (.lst (ws.map V.int)) → Same H H' → Q (.ref r) H'
def sp_minit (a : Ads) : Sp := fun vs H Q _ => ∃ (p dx : Addr) (k : Nat), vs = [.ref p, .int k] ∧ 1 ≤ k ∧ k ≤ 6 ∧ H p = some (.ins a.C_Mixer dx []) ∧ ∀ l H', H l = none → MxAt a p dx l (List.replicate k 1099511627776) H' → But p H H' → Q .non H'
theorem sum_take_snoc {l : List Int} {i : Nat} {q : Int} (h : l[i]? = some q) : (l.take (i + 1)).sum = (l.take i).sum + q := by
  rw [take_snocI h, List.sum_append]
  simp
theorem shL_at {ws cs : List Int} {b : Int} {i : Nat} (h1 : i < ws.length) (h2 : i < cs.length) : (shL ws cs b)[i]? = some (ws[i] * giv cs[i] b) := by
  unfold shL
  rw [List.getElem?_eq_getElem (by rw [List.length_zipWith]; omega), List.getElem_zipWith]
theorem half_pow (s : Int) (i : Nat) : s / 2 ^ i / 2 = s / 2 ^ (i + 1) := by
  rw [Int.pow_succ, Int.ediv_ediv_of_nonneg (Int.le_of_lt (two_pos i))]
theorem tOf_lt {s : Int} {i : Nat} (h : 1 ≤ s) (hi : i ≤ tOf s) : 281474976710656 ≤ s / 2 ^ i ↔ i < tOf s := by
  obtain ⟨t1, t2⟩ := tOf_is h
  constructor
  · intro h1
    rcases Nat.lt_or_ge i (tOf s) with q | q
    · exact q
    · have e : i = tOf s := by omega
      rw [← e] at t1
      have := (Int.ediv_lt_iff_lt_mul (two_pos i)).mpr t1
      omega
  · intro h1
    rcases t2 with t2 | t2
    · omega
    · refine (Int.le_ediv_iff_mul_le (two_pos i)).mpr ?_
      obtain ⟨d, e⟩ : ∃ d, tOf s = i + 1 + d := ⟨tOf s - i - 1, by omega⟩
      rw [e, Int.pow_add, Int.pow_succ] at t2
      have h2 := two_pos d
      have h3 := two_pos i
      have : (2 : Int) ^ i * 2 * 1 ≤ 2 ^ i * 2 * 2 ^ d := Int.mul_le_mul_of_nonneg_left (by omega) (by omega)
      omega
theorem gr_hi {k : Nat} {ws cs : List Int} {b : Int} (hk6 : k ≤ 6) (hw : WOk k ws) (hc : COk k cs) : (grL (shL ws cs b)).sum < 1267650600228229401496703205376 := by
  have e : ws.length = cs.length := by rw [hw.len, hc.len]
  have h0 : ∀ w ∈ ws, 0 ≤ w := fun w h => by have := hw.one w h; omega
  have hi := zip_hi (f := fun c => giv c b) (m := 16744448) e h0 fun c h => giv_hi (hc.lo c h) (hc.hi c h)
  have hs := hw.small hk6
  have hs0 : 0 ≤ ws.sum := sum_nn h0
  have hsum : (shL ws cs b).sum ≤ 28278866248396800000000 := by
    have : (shL ws cs b).sum ≤ 16744448 * ws.sum := hi
    omega
  rw [grL_sum, shL_len e, hw.len]
  have h1 : 32 * (k : Int) * (shL ws cs b).sum ≤ 32 * (k : Int) * 28278866248396800000000 := Int.mul_le_mul_of_nonneg_left hsum (by omega)
  omega
theorem pow_hi {s : Int} (h : 1 ≤ s) (h2 : s < 1267650600228229401496703205376) : (2 : Int) ^ tOf s < 1267650600228229401496703205376 := by
  rcases (tOf_is h).2 with e | e
  · rw [e]; decide
  · omega
theorem gr_pos {k : Nat} {ws cs : List Int} {b : Int} (hk : 1 ≤ k) (hw : WOk k ws) (hc : COk k cs) : 1 ≤ (grL (shL ws cs b)).sum := by
  have hl : (shL ws cs b).length = k := by rw [shL_len (by rw [hw.len, hc.len]), hw.len]
  have ha : 1 ≤ (shL ws cs b).sum := by
    have := sum_lo (c := 1) (shL_pos (b := b) hw hc)
    rw [hl] at this; omega
  rw [grL_sum, hl]
  have : 32 * (k : Int) * 1 ≤ 32 * (k : Int) * (shL ws cs b).sum := Int.mul_le_mul_of_nonneg_left ha (by omega)
  omega
def kindV : V → Bool
  | .str s => inV (.str s) [V.str "even", V.str "quick", V.str "run"]
  | _ => false
def plV : V → Bool
  | .int i => decide (1 ≤ i) && decide (i ≤ 8)
  | _ => false
def ltV : V → V → Bool
  | .int i, .int j => decide (i < j)
  | _, _ => false
/-- each below the next one -/
def risV (xs : List V) : Bool := (List.zipWith ltV xs xs.tail).all id
def placesV (xs : List V) : Bool := decide (xs.length ≤ 4) && xs.all plV && risV xs
/-- are_places tells b of x -/
def PlB (K : PySem.W.Frag) (H : Hp) (x : V) (b : Bool) : Prop := (∃ n, TyOf K H x (.type n) ∧ n ≠ "tuple" ∧ b = false) ∨ ∃ t xs, x = .ref t ∧ H t = some (.tup xs) ∧ xs.length ≤ 1000 ∧ (∀ y ∈ xs, ∃ n : String, TyOf K H y (.type n)) ∧ b = placesV xs
/-- is_look tells b of x -/
def LkB (K : PySem.W.Frag) (H : Hp) (x : V) (b : Bool) : Prop := (∃ n, TyOf K H x (.type n) ∧ n ≠ "tuple" ∧ b = false) ∨
  ∃ t xs, x = .ref t ∧ H t = some (.tup xs) ∧ ((xs.length ≠ 2 ∧ b = false) ∨ ∃ y z n, xs = [y, z] ∧ TyOf K H y (.type n) ∧ ((kindV y = false ∧ b = false) ∨ (kindV y = true ∧ PlB K H z b)))
theorem PlB.same {K : PySem.W.Frag} {H H' : Hp} {x : V} {b : Bool} (h : PlB K H x b) (S : Same H H') : PlB K H' x b := by
  rcases h with ⟨n, t, hn, e⟩ | ⟨t, xs, e, ht, hl, hy, hb⟩
  · exact .inl ⟨n, tysame S t, hn, e⟩
  · exact .inr ⟨t, xs, e, S _ _ ht, hl, fun y hm => let ⟨n, z⟩ := hy y hm; ⟨n, tysame S z⟩, hb⟩
theorem LkB.same {K : PySem.W.Frag} {H H' : Hp} {x : V} {b : Bool} (h : LkB K H x b) (S : Same H H') : LkB K H' x b := by
  rcases h with ⟨n, t, hn, e⟩ | ⟨t, xs, e, ht, h⟩
  · exact .inl ⟨n, tysame S t, hn, e⟩
  · refine .inr ⟨t, xs, e, S _ _ ht, ?_⟩
    rcases h with h | ⟨y, z, n, e2, ty, h⟩
    · exact .inl h
    · refine .inr ⟨y, z, n, e2, tysame S ty, ?_⟩
      rcases h with h | ⟨h1, h2⟩
      · exact .inl h
      · exact .inr ⟨h1, h2.same S⟩
theorem kit_tupM {K : PySem.W.Frag} {H : Hp} {x : V} {n : String} (ty : TyOf K H x (.type n)) : PySem.W.kitOne K (.type n) (.type "tuple") = some (decide (n = "tuple")) := by cases ty <;> rfl
theorem kit_strM {K : PySem.W.Frag} {H : Hp} {x : V} {n : String} (ty : TyOf K H x (.type n)) : PySem.W.kitOne K (.type n) (.type "str") = some (decide (n = "str")) := by cases ty <;> rfl
theorem kit_lstL {K : PySem.W.Frag} {H : Hp} {x : V} {n : String} (ty : TyOf K H x (.type n)) : PySem.W.kitOne K (.type n) (.type "list") = some (decide (n = "list")) := by cases ty <;> rfl
theorem tail_at {xs : List V} {i : Nat} {y : V} (h : xs.tail[i]? = some y) : xs[i + 1]? = some y := by
  cases xs with
  | nil => simp at h
  | cons x r => simpa using h
theorem ris_range (xs : List V) : (List.range xs.tail.length).map (fun i => V.bl (ltV ((xs[i]?).getD .non) ((xs.tail[i]?).getD .non))) = (List.zipWith ltV xs xs.tail).map V.bl := by
  apply List.ext_getElem
  · rw [List.length_map, List.length_range, List.length_map, List.length_zipWith, List.length_tail]; omega
  · intro i h1 h2
    rw [List.length_map, List.length_range] at h1
    have hx : i < xs.length := by rw [List.length_tail] at h1; omega
    rw [List.getElem_map, List.getElem_range, List.getElem_map, List.getElem_zipWith, List.getElem?_eq_getElem h1, List.getElem?_eq_getElem hx]
    rfl
theorem zip_ris {K : PySem.W.Frag} {t u D : Addr} {xs : List V} {te : TE} {fr : St} {R : Hp → Prop} {H1 : Hp} (hint : ∀ y ∈ xs, ∃ i : Int, y = .int i) (hl : xs.length ≤ 1000) (ht : SqT K H1 t xs) (hu : SqT K H1 u xs.tail) (hD : H1 D = none)
    (hte : ∀ (i j : Int) (σ' : St) (H' : Hp) (Q' : VK), Q' (.bl (decide (i < j))) H' → te (some (.int i) :: some (.int j) :: σ') H' Q') (hR : ∀ H, Same H1 H → H D = some (.lst ((List.zipWith ltV xs xs.tail).map V.bl)) → R H) :
    tCompBT (ItzT K t u) (gTup K 2 (gCons (gName 0) (gCons (gName 1) gNil))) te 2 fr D R H1 := by
  refine compT_zipTM (m := xs.tail.length) (fun i => V.bl (ltV ((xs[i]?).getD .non) ((xs.tail[i]?).getD .non))) ht hu (by rw [List.length_tail]; omega) (Nat.le_refl _) (.inr (Nat.le_refl _)) hD (fun i x y H2 tt pre hi hx hy S2 hD2 htt hpre => ?_) (fun H2 S2 hD2 => ?_)
  · obtain ⟨v1, v2, rfl⟩ := two_of hpre
    obtain ⟨c, rfl⟩ := hint x (List.mem_of_getElem? hx)
    obtain ⟨d, rfl⟩ := hint y (List.mem_of_getElem? (tail_at hy))
    have S3 := S2.trans (same_upd (o := HO.tup [V.int c, V.int d]) htt)
    have hD3 := upd_new (o' := HO.tup [V.int c, V.int d]) htt hD2
    have ht3 : upd H2 tt (HO.tup [V.int c, V.int d]) tt = some (.tup [V.int c, V.int d]) := upd_same
    generalize upd H2 tt (HO.tup [V.int c, V.int d]) = H3 at S3 hD3 ht3
    refine i_gTup (SqT.of ht3) rfl ?_
    show gCons (gName 0) (gCons (gName 1) gNil) [V.int c, V.int d] (v1 :: v2 :: fr) H3 _
    walk_at "rd"
    refine ⟨⟨[some (.int c), some (.int d)], rfl, rfl⟩, ?_⟩
    refine hte c d fr H3 _ ?_
    refine Mp.doneR hD (line_lt (by rw [List.length_tail]; omega)) hi S3 hD3 ?_
    rw [hx, hy]
    rfl
  · exact hR H2 S2 (by rw [← ris_range]; exact hD2)
theorem cut_one (xs : List V) : cutV xs (some 1) none = xs.tail := by
  unfold cutV
  have e : HT.sIx xs.length 0 (some 1) = min 1 xs.length := by
    have := HT.sIx_nat xs.length 0 1
    simpa using this
  rw [HT.sIx_none, e]
  cases xs with
  | nil => rfl
  | cons x r => simp
theorem bl_range {n : Nat} (bs : List Bool) (h : n = bs.length) : (List.range n).map (fun i => V.bl ((bs[i]?).getD false)) = bs.map V.bl := by
  subst h
  apply List.ext_getElem
  · rw [List.length_map, List.length_range, List.length_map]
  · intro i h1 h2
    rw [List.length_map, List.length_range] at h1
    rw [List.getElem_map, List.getElem_range, List.getElem_map, List.getElem?_eq_getElem h1]
    rfl
/-- of the things of a list is_look tells bs -/
def LkBs (K : PySem.W.Frag) (H : Hp) (xs : List V) (bs : List Bool) : Prop := xs.length = bs.length ∧ ∀ (i : Nat) (y : V) (b : Bool), xs[i]? = some y → bs[i]? = some b → LkB K H y b
theorem LkBs.same {K : PySem.W.Frag} {H H' : Hp} {xs : List V} {bs : List Bool} (h : LkBs K H xs bs) (S : Same H H') : LkBs K H' xs bs := ⟨h.1, fun i y b h1 h2 => (h.2 i y b h1 h2).same S⟩
/-- a good look -/
def LkG (H : Hp) (v : V) (kd : Fin 3) (tp : Addr) (ps : List Int) : Prop := ∃ lk, v = .ref lk ∧ H lk = some (.tup [.str (kdS kd), .ref tp]) ∧ H tp = some (.tup (ps.map V.int)) ∧ placesV (ps.map V.int) = true
theorem LkG.same {H H' : Hp} {v : V} {kd : Fin 3} {tp : Addr} {ps : List Int} (h : LkG H v kd tp ps) (S : Same H H') : LkG H' v kd tp ps := by
  obtain ⟨lk, e, h1, h2, h3⟩ := h
  exact ⟨lk, e, S _ _ h1, S _ _ h2, h3⟩
theorem kind_ok (kd : Fin 3) : kindV (.str (kdS kd)) = true := by
  match kd with
  | 0 => rfl
  | 1 => rfl
  | 2 => rfl
theorem places_len {xs : List V} (h : placesV xs = true) : xs.length ≤ 4 := by
  unfold placesV at h
  rw [Bool.and_eq_true, Bool.and_eq_true] at h
  exact of_decide_eq_true h.1.1
theorem LkG.tells {K : PySem.W.Frag} {H : Hp} {v : V} {kd : Fin 3} {tp : Addr} {ps : List Int} (h : LkG H v kd tp ps) : LkB K H v true := by
  obtain ⟨lk, e, h1, h2, h3⟩ := h
  have := places_len h3
  refine .inr ⟨lk, _, e, h1, .inr ⟨_, _, "str", rfl, .str _, .inr ⟨kind_ok kd, .inr ⟨tp, _, rfl, h2, by omega, fun y hy => ?_, h3.symm⟩⟩⟩⟩
  obtain ⟨i, _, rfl⟩ := List.mem_map.mp hy
  exact ⟨_, .int i⟩
theorem ris_of : ∀ {ps : List Int}, ps.Pairwise (· < ·) → risV (ps.map V.int) = true
  | [], _ => rfl
  | [_], _ => rfl
  | p :: q :: r, h => by
    have h1 : p < q := (List.pairwise_cons.mp h).1 q (by simp)
    have ih := ris_of (List.pairwise_cons.mp h).2
    unfold risV at ih ⊢
    simp only [List.map_cons, List.tail_cons, List.zipWith_cons_cons, List.all_cons] at ih ⊢
    rw [show ltV (V.int p) (V.int q) = true from decide_eq_true h1]
    simpa using ih
theorem places_of {ps : List Int} (h1 : ps.length ≤ 4) (h2 : ∀ p ∈ ps, 1 ≤ p ∧ p ≤ 8) (h3 : ps.Pairwise (· < ·)) : placesV (ps.map V.int) = true := by
  unfold placesV
  rw [List.length_map, decide_eq_true h1, ris_of h3, Bool.true_and, Bool.and_true, List.all_eq_true]
  intro y hy
  obtain ⟨i, hi, rfl⟩ := List.mem_map.mp hy
  have := h2 i hi
  show (decide (1 ≤ i) && decide (i ≤ 8)) = true
  rw [decide_eq_true this.1, decide_eq_true this.2]
  rfl
/-- all of them good -/
def Lks (H : Hp) (xs : List V) : Prop := ∀ y ∈ xs, ∃ kd tp ps, LkG H y kd tp ps
theorem Lks.same {H H' : Hp} {xs : List V} (h : Lks H xs) (S : Same H H') : Lks H' xs := fun y hy => let ⟨kd, tp, ps, z⟩ := h y hy; ⟨kd, tp, ps, z.same S⟩
def dLk (kd : Fin 3) (ps : List Int) : PyData := .tuple [.str (kdS kd), .tuple (ps.map PyData.int)]
theorem LkG.rd {K : PySem.W.Frag} {H : Hp} {v : V} {kd : Fin 3} {tp : Addr} {ps : List Int} (h : LkG H v kd tp ps) : RdV K H v (dLk kd ps) := by
  obtain ⟨lk, rfl, h1, h2, _⟩ := h
  exact .tup (SqT.of h1) (.cons (.str _) (.cons (.tup (SqT.of h2) (rdVs_ints ps)) .nil))
theorem Lks.bs {K : PySem.W.Frag} {H : Hp} {xs : List V} (h : Lks H xs) : LkBs K H xs (List.replicate xs.length true) := by
  refine ⟨by rw [List.length_replicate], fun i y b h1 h2 => ?_⟩
  have hb : b = true := List.eq_of_mem_replicate (List.mem_of_getElem? h2)
  obtain ⟨kd, tp, ps, z⟩ := h y (List.mem_of_getElem? h1)
  rw [hb]
  exact z.tells
theorem all_rep (n : Nat) : (List.replicate n true).all id = true := by simp
/-- what checked_looks refuses -/
def BadL (K : PySem.W.Frag) (H : Hp) (x : V) : Prop := (∃ n, TyOf K H x (.type n) ∧ n ≠ "list") ∨ ∃ l xs bs, x = .ref l ∧ H l = some (.lst xs) ∧ xs.length ≤ 1000 ∧ LkBs K H xs bs ∧ ¬ (1 ≤ xs.length ∧ xs.length ≤ 6 ∧ bs.all id = true)
theorem BadL.same {K : PySem.W.Frag} {H H' : Hp} {x : V} (h : BadL K H x) (S : Same H H') : BadL K H' x := by
  rcases h with ⟨n, ty, hn⟩ | ⟨l, xs, bs, e, hl, hz, hb, no⟩
  · exact .inl ⟨n, tysame S ty, hn⟩
  · exact .inr ⟨l, xs, bs, e, S _ _ hl, hz, hb.same S, no⟩
theorem LkG.upd {H : Hp} {v : V} {kd : Fin 3} {tp l : Addr} {ps : List Int} {xs ys : List V} (h : LkG H v kd tp ps) (hl : H l = some (.lst xs)) : LkG (L2.upd H l (.lst ys)) v kd tp ps := by
  obtain ⟨lk, e, h1, h2, h3⟩ := h
  exact ⟨lk, e, upd_oth (ne_of h1 hl (by intro z; cases z)) h1, upd_oth (ne_of h2 hl (by intro z; cases z)) h2, h3⟩
theorem Lks.upd {H : Hp} {l : Addr} {xs ys zs : List V} (h : Lks H zs) (hl : H l = some (.lst xs)) : Lks (L2.upd H l (.lst ys)) zs := fun y hy => let ⟨kd, tp, ps, z⟩ := h y hy; ⟨kd, tp, ps, z.upd hl⟩
theorem LkBs.append {K : PySem.W.Frag} {H : Hp} {xs ys : List V} {bs cs : List Bool} (h1 : LkBs K H xs bs) (h2 : LkBs K H ys cs) : LkBs K H (xs ++ ys) (bs ++ cs) := by
  refine ⟨by rw [List.length_append, List.length_append, h1.1, h2.1], fun i y b e1 e2 => ?_⟩
  rcases Nat.lt_or_ge i xs.length with q | q
  · rw [List.getElem?_append_left q] at e1
    rw [List.getElem?_append_left (by rw [← h1.1]; exact q)] at e2
    exact h1.2 i y b e1 e2
  · rw [List.getElem?_append_right q] at e1
    rw [List.getElem?_append_right (by rw [← h1.1]; exact q), ← h1.1] at e2
    exact h2.2 _ y b e1 e2
theorem LkBs.one {K : PySem.W.Frag} {H : Hp} {v : V} {b : Bool} (h : LkB K H v b) : LkBs K H [v] [b] := by
  refine ⟨rfl, fun i y b' e1 e2 => ?_⟩
  cases i with
  | zero =>
    cases e1
    cases e2
    exact h
  | succ j => simp at e1
def upN {α : Type} (g : Nat → α) (n : Nat) (x : α) : Nat → α := fun j => if j = n then x else g j
theorem upN_at {α : Type} {g : Nat → α} {n : Nat} {x : α} : upN g n x n = x := if_pos rfl
theorem upN_lt {α : Type} {g : Nat → α} {n j : Nat} {x : α} (h : j < n) : upN g n x j = g j := if_neg (by omega)
theorem kd_pick (c : Int) : ∃ kk : Fin 3, atI [V.str "even", V.str "quick", V.str "run"] (c % 3) = some (V.str (kdS kk)) := by
  have h0 : 0 ≤ c % 3 := Int.emod_nonneg _ (by decide)
  have h1 : c % 3 < 3 := Int.emod_lt_of_pos _ (by decide)
  generalize c % 3 = z at h0 h1
  obtain rfl | rfl | rfl : z = 0 ∨ z = 1 ∨ z = 2 := by omega
  · exact ⟨0, rfl⟩
  · exact ⟨1, rfl⟩
  · exact ⟨2, rfl⟩
/-- a row of good looks -/
def LkRow (H : Hp) (n : Nat) (lk : Nat → Addr) (kd : Nat → Fin 3) (tp : Nat → Addr) (ps : Nat → List Int) : Prop := ∀ i, i < n → LkG H (.ref (lk i)) (kd i) (tp i) (ps i)
theorem LkRow.same {H H' : Hp} {n : Nat} {lk : Nat → Addr} {kd : Nat → Fin 3} {tp : Nat → Addr} {ps : Nat → List Int} (h : LkRow H n lk kd tp ps) (S : Same H H') : LkRow H' n lk kd tp ps := fun i hi => (h i hi).same S
theorem b8_range (s : Int) : (List.range 8).map (fun i => V.int (s / (128 / 2 ^ i) % 2)) = (b8 s).map V.int := rfl
/-- a value read as data that equals itself -/
structure Sd (K : PySem.W.Frag) (H : Hp) (v : V) (d : PyData) (k : Nat) : Prop where
  rd : RdV K H v d
  lay : d.canLay0 = true
  dep : d.depth ≤ k
  eq : PyData.eqv d d = true
structure Sds (K : PySem.W.Frag) (H : Hp) (xs : List V) (ds : List PyData) (k : Nat) : Prop where
  rd : RdVs K H xs ds
  lay : PyData.canLayAll0 ds = true
  dep : PyData.depthAll ds ≤ k
  eq : PyData.eqvAll ds ds = true
theorem Sd.int {K : PySem.W.Frag} {H : Hp} (i : Int) {k : Nat} : Sd K H (.int i) (.int i) k := ⟨.int i, by simp [PyData.canLay0], by simp [PyData.depth], by simp [PyData.eqv]⟩
theorem Sd.bl {K : PySem.W.Frag} {H : Hp} (b : Bool) {k : Nat} : Sd K H (.bl b) (.bool b) k := ⟨.bl b, by simp [PyData.canLay0], by simp [PyData.depth], by simp [PyData.eqv]⟩
theorem Sds.nil {K : PySem.W.Frag} {H : Hp} {k : Nat} : Sds K H [] [] k := ⟨.nil, rfl, Nat.zero_le _, by simp [PyData.eqvAll]⟩
theorem Sds.cons {K : PySem.W.Frag} {H : Hp} {v : V} {d : PyData} {xs : List V} {ds : List PyData} {k : Nat} (h : Sd K H v d k) (r : Sds K H xs ds k) : Sds K H (v :: xs) (d :: ds) k := by
  refine ⟨.cons h.rd r.rd, by simp [PyData.canLayAll0, h.lay, r.lay], ?_, by simp [PyData.eqvAll, h.eq, r.eq]⟩
  have h1 := h.dep
  have h2 := r.dep
  simp only [PyData.depthAll]
  omega
theorem Sds.ints {K : PySem.W.Frag} {H : Hp} (ns : List Int) {k : Nat} : Sds K H (ns.map V.int) (ns.map PyData.int) k := ⟨rdVs_ints ns, canLay_ints ns, by rw [depth_ints]; exact Nat.zero_le _, by rw [eqvAll_ints, decide_eq_true rfl]⟩
theorem Sd.lst {K : PySem.W.Frag} {H : Hp} {p : Addr} {xs : List V} {ds : List PyData} {k : Nat} (h : SqL K H p xs) (r : Sds K H xs ds k) : Sd K H (.ref p) (.list ds) (k + 1) := by
  refine ⟨.lst h r.rd, by simp [PyData.canLay0, r.lay], ?_, by simp [PyData.eqv, r.eq]⟩
  have h2 := r.dep
  simp only [PyData.depth]
  omega
theorem Sd.tup {K : PySem.W.Frag} {H : Hp} {p : Addr} {xs : List V} {ds : List PyData} {k : Nat} (h : SqT K H p xs) (r : Sds K H xs ds k) : Sd K H (.ref p) (.tuple ds) (k + 1) := by
  refine ⟨.tup h r.rd, by simp [PyData.canLay0, r.lay], ?_, by simp [PyData.eqv, r.eq]⟩
  have h2 := r.dep
  simp only [PyData.depth]
  omega
theorem Sd.up {K : PySem.W.Frag} {H : Hp} {v : V} {d : PyData} {k k' : Nat} (h : Sd K H v d k) (hk : k ≤ k') : Sd K H v d k' := ⟨h.rd, h.lay, Nat.le_trans h.dep hk, h.eq⟩
theorem Sds.up {K : PySem.W.Frag} {H : Hp} {xs : List V} {ds : List PyData} {k k' : Nat} (h : Sds K H xs ds k) (hk : k ≤ k') : Sds K H xs ds k' := ⟨h.rd, h.lay, Nat.le_trans h.dep hk, h.eq⟩
theorem back_some {sg : List Int} {p : Int} (h1 : 1 ≤ p) (h8 : p ≤ 8) : atI ((List.replicate 8 (256 : Int) ++ sg).map V.int) (((List.replicate 8 (256 : Int) ++ sg).map V.int).length - p) = some (V.int (back sg p)) := by
  have hl : (List.replicate 8 (256 : Int) ++ sg).length = 8 + sg.length := by rw [List.length_append, List.length_replicate]
  rw [List.length_map, hl]
  obtain ⟨j, hj⟩ : ∃ j : Nat, ((8 + sg.length : Nat) : Int) - p = (j : Int) := ⟨(((8 + sg.length : Nat) : Int) - p).toNat, by omega⟩
  rw [hj]
  refine atI_nat ?_
  rw [List.getElem?_map]
  unfold back
  by_cases hp : p ≤ sg.length
  · rw [if_pos hp, List.getElem?_append_right (by rw [List.length_replicate]; omega), List.length_replicate]
    have e : atI sg (-p) = sg[j - 8]? := by
      unfold atI ixN
      rw [if_neg (by omega), if_pos (by omega)]
      show sg[(-p + (sg.length : Int)).toNat]? = _
      congr 1
      omega
    rw [e, List.getElem?_eq_getElem (show j - 8 < sg.length by omega)]
    rfl
  · rw [if_neg hp, List.getElem?_append_left (by rw [List.length_replicate]; omega), List.getElem?_replicate, if_pos (by omega)]
    rfl
--%% is_whole
theorem sc_is_whole : FnScope ["thing"] ["thing"] (defScope s_is_whole) := scMk (by decide +kernel)
def sp_is_whole (K : PySem.W.Frag) : Sp := fun vs H Q _ => ∃ x n, vs = [x] ∧ TyOf K H x (.type n) ∧ Q (.bl (wholeV x)) H
theorem ok_is_whole (T : Txt K mg a) : FnOk P w K mg base CX0 1 a.f_is_whole a.d_is_whole ["thing"] (sp_is_whole K) := by
  refine T.y_is_whole.F.ok sc_is_whole (fun vs H Q E h => ?_) (fun cdv A outer s H vs Q E hr h => ?_)
  · obtain ⟨x, n, rfl, _⟩ := h
    rfl
  · obtain ⟨x, n, rfl, ty, k⟩ := h
    refine ⟨_, (pss_one (ps_ret (pe_and (pe_callB call_isinst rfl T.z_isinstance (by decide +kernel) (pa_cons (pv 0) (pa_cons (pe_bty (T := "int") rfl T.z_int (by decide +kernel)) pa_nil (star_ok rfl)) (star_ok rfl))) (pe_one (pe_not (pe_callB call_isinst rfl T.z_isinstance (by decide +kernel) (pa_cons (pv 0) (pa_cons (pe_bty (T := "bool") rfl T.z_bool (by decide +kernel)) pa_nil (star_ok rfl)) (star_ok rfl)))))))), ?_⟩
    try dsimp only [cxOf]
    refine i_start (σ' := [some _]) rfl ?_
    walk_at "rd"
    refine i_isi ty (kit_int ty) ?_
    walk_at "rd"
    cases hx : isIntV x with
    | false =>
      have e : wholeV x = false := by
        cases x <;> first | rfl | cases hx
      rw [e] at k
      exact iteF k
    | true =>
      have e : wholeV x = !isBoolV x := by
        cases x <;> first | rfl | cases hx
      rw [e] at k
      refine iteT ?_
      walk_at "rd"
      refine i_isi ty (kit_bool ty) ?_
      walk_at "rd"
      exact k
--%% is_bit
theorem sc_is_bit : FnScope ["thing"] ["thing"] (defScope s_is_bit) := scMk (by decide +kernel)
def sp_is_bit (K : PySem.W.Frag) : Sp := fun vs H Q _ => ∃ x n, vs = [x] ∧ TyOf K H x (.type n) ∧ Q (.bl (bitV x)) H
theorem ok_is_bit (T : Txt K mg a) : FnOk P w K mg base CX0 2 a.f_is_bit a.d_is_bit ["thing"] (sp_is_bit K) := by
  refine T.y_is_bit.F.ok sc_is_bit (fun vs H Q E h => ?_) (fun cdv A outer s H vs Q E hr h => ?_)
  · obtain ⟨x, n, rfl, _⟩ := h
    rfl
  · obtain ⟨x, n, rfl, ty, k⟩ := h
    refine ⟨_, (pss_one (ps_ret (pe_and (pe_call (ok_is_whole T) (hr.mono (by decide)) rfl T.y_is_whole.m T.y_is_whole.F.kp T.y_is_whole.B .nil pass0 (pa_cons (pv 0) pa_nil (star_ok rfl))) (pe_one (pe_chain op_le op_le pe_int (pv 0) pe_int))))), ?_⟩
    try dsimp only [cxOf]
    refine i_start (σ' := [some _]) rfl ?_
    walk_at "rd"
    refine ⟨x, n, rfl, ty, ?_⟩
    walk_at "rd"
    cases hx : wholeV x with
    | false =>
      have e : bitV x = false := by
        cases x <;> first | rfl | cases hx
      rw [e] at k
      exact iteF k
    | true =>
      obtain ⟨i, rfl⟩ := wholeV_int hx
      refine iteT ?_
      walk_at "rd"
      refine iteD (fun h0 => ?_) (fun h0 => ?_)
      · walk_at "rd"
        have e : bitV (.int i) = decide (i ≤ 1) := by simp [bitV, h0]
        rw [e] at k
        exact k
      · have e : bitV (.int i) = false := by simp [bitV, h0]
        rw [e] at k
        exact k
--%% is_chance
theorem sc_is_chance : FnScope ["thing"] ["thing"] (defScope s_is_chance) := scMk (by decide +kernel)
def sp_is_chance (K : PySem.W.Frag) : Sp := fun vs H Q _ => ∃ x n, vs = [x] ∧ TyOf K H x (.type n) ∧ Q (.bl (chV x)) H
theorem ok_is_chance (T : Txt K mg a) : FnOk P w K mg base CX0 2 a.f_is_chance a.d_is_chance ["thing"] (sp_is_chance K) := by
  refine T.y_is_chance.F.ok sc_is_chance (fun vs H Q E h => ?_) (fun cdv A outer s H vs Q E hr h => ?_)
  · obtain ⟨x, n, rfl, _⟩ := h
    rfl
  · obtain ⟨x, n, rfl, ty, k⟩ := h
    refine ⟨_, (pss_one (ps_ret (pe_and (pe_call (ok_is_whole T) (hr.mono (by decide)) rfl T.y_is_whole.m T.y_is_whole.F.kp T.y_is_whole.B .nil pass0 (pa_cons (pv 0) pa_nil (star_ok rfl))) (pe_one (pe_chain op_le op_le (pe_gint rfl T.c_LEAST) (pv 0) (pe_op op_sub (pe_gint rfl T.c_ONE) (pe_gint rfl T.c_LEAST))))))), ?_⟩
    try dsimp only [cxOf]
    refine i_start (σ' := [some _]) rfl ?_
    walk_at "rd"
    refine ⟨x, n, rfl, ty, ?_⟩
    walk_at "rd"
    cases hx : wholeV x with
    | false =>
      have e : chV x = false := by
        cases x <;> first | rfl | cases hx
      rw [e] at k
      exact iteF k
    | true =>
      obtain ⟨i, rfl⟩ := wholeV_int hx
      refine iteT ?_
      walk_at "rd"
      refine iteD (fun h0 => ?_) (fun h0 => ?_)
      · walk_at "rd"
        have e : chV (.int i) = decide (i ≤ 16777216 - 32768) := by simp [chV, h0]
        rw [e] at k
        exact k
      · have e : chV (.int i) = false := by simp [chV, h0]
        rw [e] at k
        exact k
--%% check_chance
theorem sc_check_chance : FnScope ["thing"] ["thing"] (defScope s_check_chance) := scMk (by decide +kernel)
def sp_check_chance (K : PySem.W.Frag) (C : Addr) : Sp := fun vs H Q E => ∃ x n, vs = [x] ∧ TyOf K H x (.type n) ∧ (chV x = true → Q .non H) ∧ (chV x = false → E (.ref C) none H)
theorem ok_check_chance (T : Txt K mg a) : FnOk P w K mg base (CXe P w) 3 a.f_check_chance a.d_check_chance ["thing"] (sp_check_chance K a.C_NoChance) := by
  refine T.y_check_chance.F.okE sc_check_chance (fun vs H Q E h => ?_) (fun cdv A outer s H vs Q E hr h => ?_)
  · obtain ⟨x, n, rfl, _⟩ := h
    rfl
  · obtain ⟨x, n, rfl, ty, k1, k2⟩ := h
    refine ⟨_, (pss_one (ps_if (pt_not (pt_val (pe_call (ok_is_chance T) (hr.mono (by decide)) rfl T.y_is_chance.m T.y_is_chance.F.kp T.y_is_chance.B .nil pass0 (pa_cons (pv 0) pa_nil (star_ok rfl))))) (pss_one (ps_raise rfl T.m_NoChance T.r_NoChance (pa_cons pe_str pa_nil (star_ok rfl)))) pss_nil)), ?_⟩
    try dsimp only [cxOf]
    refine i_start (σ' := [some _]) rfl ?_
    walk_at "rd"
    refine ⟨x, n, rfl, ty, ?_⟩
    walk_at "rd"
    cases hx : chV x with
    | false =>
      walk_at "rd"
      exact ⟨by walk_at "len", k2 hx⟩
    | true =>
      walk_at "rd"
      exact k1 hx
--%% check_bit
theorem sc_check_bit : FnScope ["thing"] ["thing"] (defScope s_check_bit) := scMk (by decide +kernel)
def sp_check_bit (K : PySem.W.Frag) (C : Addr) : Sp := fun vs H Q E => ∃ x n, vs = [x] ∧ TyOf K H x (.type n) ∧ (bitV x = true → Q .non H) ∧ (bitV x = false → E (.ref C) none H)
theorem ok_check_bit (T : Txt K mg a) : FnOk P w K mg base (CXe P w) 3 a.f_check_bit a.d_check_bit ["thing"] (sp_check_bit K a.C_NoBit) := by
  refine T.y_check_bit.F.okE sc_check_bit (fun vs H Q E h => ?_) (fun cdv A outer s H vs Q E hr h => ?_)
  · obtain ⟨x, n, rfl, _⟩ := h
    rfl
  · obtain ⟨x, n, rfl, ty, k1, k2⟩ := h
    refine ⟨_, (pss_one (ps_if (pt_not (pt_val (pe_call (ok_is_bit T) (hr.mono (by decide)) rfl T.y_is_bit.m T.y_is_bit.F.kp T.y_is_bit.B .nil pass0 (pa_cons (pv 0) pa_nil (star_ok rfl))))) (pss_one (ps_raise rfl T.m_NoBit T.r_NoBit (pa_cons pe_str pa_nil (star_ok rfl)))) pss_nil)), ?_⟩
    try dsimp only [cxOf]
    refine i_start (σ' := [some _]) rfl ?_
    walk_at "rd"
    refine ⟨x, n, rfl, ty, ?_⟩
    walk_at "rd"
    cases hx : bitV x with
    | false =>
      walk_at "rd"
      exact ⟨by walk_at "len", k2 hx⟩
    | true =>
      walk_at "rd"
      exact k1 hx
--%% gives
theorem sc_gives : FnScope ["chance", "bit"] ["chance", "bit"] (defScope s_gives) := scMk (by decide +kernel)
def sp_gives (K : PySem.W.Frag) (C D : Addr) : Sp := fun vs H Q E => ∃ x n y m, vs = [x, y] ∧ TyOf K H x (.type n) ∧ TyOf K H y (.type m) ∧ (chV x = false → E (.ref C) none H) ∧ (chV x = true → bitV y = false → E (.ref D) none H) ∧
  (∀ c b, x = .int c → y = .int b → chV x = true → bitV y = true → Q (.int (gvv c b)) H)
theorem ok_gives (T : Txt K mg a) : FnOk P w K mg base (CXe P w) 4 a.f_gives a.d_gives ["chance", "bit"] (sp_gives K a.C_NoChance a.C_NoBit) := by
  refine T.y_gives.F.okE sc_gives (fun vs H Q E h => ?_) (fun cdv A outer s H vs Q E hr h => ?_)
  · obtain ⟨x, n, y, m, rfl, _⟩ := h
    rfl
  · obtain ⟨x, n, y, m, rfl, tx, ty, k1, k2, k3⟩ := h
    refine ⟨_, (pss_cons (ps_expr (pe_callE (ok_check_chance T) (hr.mono (by decide)) rfl T.y_check_chance.m T.y_check_chance.F.kp T.y_check_chance.B .nil catch_fn (pa_cons (pv 0) pa_nil (star_ok rfl)))) (pss_cons (ps_expr (pe_callE (ok_check_bit T) (hr.mono (by decide)) rfl T.y_check_bit.m T.y_check_bit.F.kp T.y_check_bit.B .nil catch_fn (pa_cons (pv 1) pa_nil (star_ok rfl)))) (pss_one (ps_ret (pe_ifExp (pt_cmpR op_eq (pv 1) pe_int (nomark _)) (pv 0) (pe_op op_sub (pe_gint rfl T.c_ONE) (pv 0))))))), ?_⟩
    try dsimp only [cxOf]
    refine i_start (σ' := [some _, some _]) rfl ?_
    walk_at "rd"
    refine ⟨x, n, rfl, tx, fun hx => ?_, k1⟩
    walk_at "rd"
    refine ⟨y, m, rfl, ty, fun hy => ?_, k2 hx⟩
    obtain ⟨c, rfl, c1, c2⟩ := chV_int hx
    obtain ⟨b, rfl, b1, b2⟩ := bitV_int hy
    walk_at "rd"
    have k := k3 c b rfl rfl hx hy
    unfold gvv at k
    refine iteD (fun hb => ?_) (fun hb => ?_)
    · rw [if_pos hb] at k
      walk_at "rd"
      exact k
    · rw [if_neg hb] at k
      walk_at "rd"
      exact k
--%% Even___init__
theorem sc_Even___init__ : FnScope ["self"] ["self"] (defScope s_Even___init__) := scMk (by decide +kernel)
theorem ok_Even___init__ (T : Txt K mg a) : FnOk P w K mg base CX0 1 a.f_Even___init__ a.d_Even___init__ ["self"] (sp_sinit a.C_Even (F_Even (.int 0) (.int 0))) := by
  refine T.y_Even___init__.F.ok sc_Even___init__ (fun vs H Q E h => ?_) (fun cdv A outer s H vs Q E hr h => ?_)
  · obtain ⟨p, dx, rfl, _⟩ := h
    rfl
  · obtain ⟨p, dx, rfl, hp, k⟩ := h
    refine ⟨_, (pss_cons (ps_fld (pv 0) pe_int rfl) (pss_one (ps_fld (pv 0) pe_int rfl))), ?_⟩
    try dsimp only [cxOf]
    refine i_start (σ' := [some _]) rfl ?_
    walk_at "rd"
    exact k _ upd_same (But.upd.trans But.upd)
--%% Even_chance
theorem sc_Even_chance : FnScope ["self"] ["self"] (defScope s_Even_chance) := scMk (by decide +kernel)
theorem ok_Even_chance (T : Txt K mg a) : FnOk P w K mg base CX0 1 a.f_Even_chance a.d_Even_chance ["self"] (sp_schance (oS a) isEv) := by
  refine T.y_Even_chance.F.ok sc_Even_chance (fun vs H Q E h => ?_) (fun cdv A outer s H vs Q E hr h => ?_)
  · obtain ⟨p, dx, s, rfl, _⟩ := h
    rfl
  · obtain ⟨p, dx, s', rfl, hg, hs, hp, k⟩ := h
    cases s' with
    | ev n o =>
      obtain ⟨h1, h2, h3⟩ := hs
      have hp : H p = some (.ins a.C_Even dx (F_Even (.int n) (.int o))) := hp
      refine ⟨_, (pss_one (ps_ret (pe_op op_fdivB (pe_op op_mul (pe_op op_add (pe_op op_mul pe_int (pe_fld (pv 0) rfl)) pe_int) (pe_gint rfl T.c_ONE)) (pe_op op_add (pe_op op_mul pe_int (pe_op op_add (pe_fld (pv 0) rfl) (pe_fld (pv 0) rfl))) pe_int)))), ?_⟩
      try dsimp only [cxOf]
      refine i_start (σ' := [some _]) rfl ?_
      walk_at "rd"
      exact k
    | qk _ => exact hg.elim
    | rn _ _ => exact hg.elim
--%% Even_seen
theorem sc_Even_seen : FnScope ["self", "bit"] ["self", "bit"] (defScope s_Even_seen) := scMk (by decide +kernel)
theorem ok_Even_seen (T : Txt K mg a) : FnOk P w K mg base (CXe P w) 4 a.f_Even_seen a.d_Even_seen ["self", "bit"] (sp_sseen K (oS a) isEv a.C_NoBit) := by
  refine T.y_Even_seen.F.okE sc_Even_seen (fun vs H Q E h => ?_) (fun cdv A outer s H vs Q E hr h => ?_)
  · obtain ⟨p, dx, s, x, n, rfl, _⟩ := h
    rfl
  · obtain ⟨p, dx, s', x, nm, rfl, hg, hs, hp, ty, k1, k2⟩ := h
    cases s' with
    | ev n o =>
      obtain ⟨h1, h2, h3⟩ := hs
      have hp : H p = some (.ins a.C_Even dx (F_Even (.int n) (.int o))) := hp
      refine ⟨_, (pss_cons (ps_expr (pe_callE (ok_check_bit T) (hr.mono (by decide)) rfl T.y_check_bit.m T.y_check_bit.F.kp T.y_check_bit.B .nil catch_fn (pa_cons (pv 1) pa_nil (star_ok rfl)))) (pss_cons (ps_if (pt_cmpR op_eq (pv 1) pe_int (nomark _)) (pss_one (ps_fld (pv 0) (pe_op op_add (pe_fld (pv 0) rfl) pe_int) rfl)) (pss_one (ps_fld (pv 0) (pe_op op_add (pe_fld (pv 0) rfl) pe_int) rfl))) (pss_one (ps_if (pt_cmpR op_gt (pe_op op_add (pe_fld (pv 0) rfl) (pe_fld (pv 0) rfl)) (pe_gint rfl T.c_MOST_COUNTED) (nomark _)) (pss_cons (ps_fld (pv 0) (pe_op op_fdivB (pe_op op_add (pe_fld (pv 0) rfl) pe_int) pe_int) rfl) (pss_one (ps_fld (pv 0) (pe_op op_fdivB (pe_op op_add (pe_fld (pv 0) rfl) pe_int) pe_int) rfl))) pss_nil)))), ?_⟩
      try dsimp only [cxOf]
      refine i_start (σ' := [some _, some _]) rfl ?_
      walk_at "rd"
      refine ⟨x, nm, rfl, ty, fun hx => ?_, k2⟩
      obtain ⟨b, rfl, b0, b1⟩ := of_bit hx
      have k := k1 b rfl b0 b1
      unfold Slt.see at k
      dsimp only at k
      walk_at "rd"
      refine iteD (fun hb => ?_) (fun hb => ?_)
      · rw [if_pos hb] at k
        unfold evSee at k
        walk_at "rd"
        refine iteD (fun hz => ?_) (fun hz => ?_)
        · rw [if_pos hz] at k
          walk_at "rd"
          exact k _ upd_same ((But.upd.trans But.upd).trans But.upd)
        · rw [if_neg hz] at k
          walk_at "rd"
          exact k _ upd_same But.upd
      · rw [if_neg hb] at k
        unfold evSee at k
        walk_at "rd"
        refine iteD (fun hz => ?_) (fun hz => ?_)
        · rw [if_pos hz] at k
          walk_at "rd"
          exact k _ upd_same ((But.upd.trans But.upd).trans But.upd)
        · rw [if_neg hz] at k
          walk_at "rd"
          exact k _ upd_same But.upd
    | qk _ => exact hg.elim
    | rn _ _ => exact hg.elim
--%% Quick___init__
theorem sc_Quick___init__ : FnScope ["self"] ["self"] (defScope s_Quick___init__) := scMk (by decide +kernel)
theorem ok_Quick___init__ (T : Txt K mg a) : FnOk P w K mg base CX0 1 a.f_Quick___init__ a.d_Quick___init__ ["self"] (sp_sinit a.C_Quick (F_Quick (.int 8388608))) := by
  refine T.y_Quick___init__.F.ok sc_Quick___init__ (fun vs H Q E h => ?_) (fun cdv A outer s H vs Q E hr h => ?_)
  · obtain ⟨p, dx, rfl, _⟩ := h
    rfl
  · obtain ⟨p, dx, rfl, hp, k⟩ := h
    refine ⟨_, (pss_one (ps_fld (pv 0) (pe_op op_fdivB (pe_gint rfl T.c_ONE) pe_int) rfl)), ?_⟩
    try dsimp only [cxOf]
    refine i_start (σ' := [some _]) rfl ?_
    walk_at "rd"
    exact k _ upd_same But.upd
--%% Quick_chance
theorem sc_Quick_chance : FnScope ["self"] ["self"] (defScope s_Quick_chance) := scMk (by decide +kernel)
theorem ok_Quick_chance (T : Txt K mg a) : FnOk P w K mg base CX0 1 a.f_Quick_chance a.d_Quick_chance ["self"] (sp_schance (oS a) isQk) := by
  refine T.y_Quick_chance.F.ok sc_Quick_chance (fun vs H Q E h => ?_) (fun cdv A outer s H vs Q E hr h => ?_)
  · obtain ⟨p, dx, s, rfl, _⟩ := h
    rfl
  · obtain ⟨p, dx, s', rfl, hg, hs, hp, k⟩ := h
    cases s' with
    | qk h0 =>
      have hp : H p = some (.ins a.C_Quick dx (F_Quick (.int h0))) := hp
      refine ⟨_, (pss_one (ps_ret (pe_fld (pv 0) rfl))), ?_⟩
      try dsimp only [cxOf]
      refine i_start (σ' := [some _]) rfl ?_
      walk_at "rd"
      exact k
    | ev _ _ => exact hg.elim
    | rn _ _ => exact hg.elim
--%% Quick_seen
theorem sc_Quick_seen : FnScope ["self", "bit", "moved"] ["self", "bit"] (defScope s_Quick_seen) := scMk (by decide +kernel)
theorem ok_Quick_seen (T : Txt K mg a) : FnOk P w K mg base (CXe P w) 4 a.f_Quick_seen a.d_Quick_seen ["self", "bit"] (sp_sseen K (oS a) isQk a.C_NoBit) := by
  refine T.y_Quick_seen.F.okE sc_Quick_seen (fun vs H Q E h => ?_) (fun cdv A outer s H vs Q E hr h => ?_)
  · obtain ⟨p, dx, s, x, n, rfl, _⟩ := h
    rfl
  · obtain ⟨p, dx, s', x, nm, rfl, hg, hs, hp, ty, k1, k2⟩ := h
    cases s' with
    | qk h0 =>
      obtain ⟨h1, h2⟩ := hs
      have hp : H p = some (.ins a.C_Quick dx (F_Quick (.int h0))) := hp
      refine ⟨_, (pss_cons (ps_expr (pe_callE (ok_check_bit T) (hr.mono (by decide)) rfl T.y_check_bit.m T.y_check_bit.F.kp T.y_check_bit.B .nil catch_fn (pa_cons (pv 1) pa_nil (star_ok rfl)))) (pss_cons (ps_if (pt_cmpR op_eq (pv 1) pe_int (nomark _)) (pss_one (ps_set (i := 2) sc_Quick_seen.nd rfl (Or.inl rfl) (pe_op op_add (pe_fld (pv 0) rfl) (pe_op op_fdivB (pe_op op_sub (pe_gint rfl T.c_ONE) (pe_fld (pv 0) rfl)) pe_int)))) (pss_one (ps_set (i := 2) sc_Quick_seen.nd rfl (Or.inl rfl) (pe_op op_sub (pe_fld (pv 0) rfl) (pe_op op_fdivB (pe_fld (pv 0) rfl) pe_int))))) (pss_one (ps_fld (pv 0) (pe_callB (call_min2 rfl) rfl T.z_min (by decide +kernel) (pa_cons (pe_callB (call_max2 rfl) rfl T.z_max (by decide +kernel) (pa_cons (pv 2) (pa_cons (pe_gint rfl T.c_LEAST) pa_nil (star_ok rfl)) (star_ok rfl))) (pa_cons (pe_op op_sub (pe_gint rfl T.c_ONE) (pe_gint rfl T.c_LEAST)) pa_nil (star_ok rfl)) (star_ok rfl))) rfl)))), ?_⟩
      try dsimp only [cxOf]
      refine i_start (σ' := [some _, some _, none]) rfl ?_
      walk_at "rd"
      refine ⟨x, nm, rfl, ty, fun hx => ?_, k2⟩
      obtain ⟨b, rfl, b0, b1⟩ := of_bit hx
      have k := k1 b rfl b0 b1
      unfold Slt.see at k
      dsimp only at k
      walk_at "rd"
      refine iteD (fun hb => ?_) (fun hb => ?_)
      · rw [if_pos hb] at k
        walk_at "rd"
        refine ⟨_, _, rfl, ?_⟩
        walk_at "rd"
        refine ⟨_, _, rfl, ?_⟩
        walk_at "rd"
        exact k _ upd_same But.upd
      · rw [if_neg hb] at k
        walk_at "rd"
        refine ⟨_, _, rfl, ?_⟩
        walk_at "rd"
        refine ⟨_, _, rfl, ?_⟩
        walk_at "rd"
        exact k _ upd_same But.upd
    | ev _ _ => exact hg.elim
    | rn _ _ => exact hg.elim
--%% Run___init__
theorem sc_Run___init__ : FnScope ["self"] ["self"] (defScope s_Run___init__) := scMk (by decide +kernel)
theorem ok_Run___init__ (T : Txt K mg a) : FnOk P w K mg base CX0 1 a.f_Run___init__ a.d_Run___init__ ["self"] (sp_sinit a.C_Run (F_Run (.int 1) (.int 0))) := by
  refine T.y_Run___init__.F.ok sc_Run___init__ (fun vs H Q E h => ?_) (fun cdv A outer s H vs Q E hr h => ?_)
  · obtain ⟨p, dx, rfl, _⟩ := h
    rfl
  · obtain ⟨p, dx, rfl, hp, k⟩ := h
    refine ⟨_, (pss_cons (ps_fld (pv 0) pe_int rfl) (pss_one (ps_fld (pv 0) pe_int rfl))), ?_⟩
    try dsimp only [cxOf]
    refine i_start (σ' := [some _]) rfl ?_
    walk_at "rd"
    exact k _ upd_same (But.upd.trans But.upd)
--%% Run_chance
theorem sc_Run_chance : FnScope ["self", "given"] ["self"] (defScope s_Run_chance) := scMk (by decide +kernel)
theorem ok_Run_chance (T : Txt K mg a) : FnOk P w K mg base CX0 1 a.f_Run_chance a.d_Run_chance ["self"] (sp_schance (oS a) isRn) := by
  refine T.y_Run_chance.F.ok sc_Run_chance (fun vs H Q E h => ?_) (fun cdv A outer s H vs Q E hr h => ?_)
  · obtain ⟨p, dx, s, rfl, _⟩ := h
    rfl
  · obtain ⟨p, dx, s', rfl, hg, hs, hp, k⟩ := h
    cases s' with
    | rn l n =>
      obtain ⟨h1, h2, h3, h4⟩ := hs
      have hp : H p = some (.ins a.C_Run dx (F_Run (.int l) (.int n))) := hp
      refine ⟨_, (pss_cons (ps_set (i := 1) sc_Run_chance.nd rfl (Or.inl rfl) (pe_op op_fdivB (pe_op op_mul (pe_op op_add (pe_op op_mul pe_int (pe_fld (pv 0) rfl)) pe_int) (pe_gint rfl T.c_ONE)) (pe_op op_add (pe_op op_mul pe_int (pe_fld (pv 0) rfl)) pe_int))) (pss_one (ps_ret (pe_ifExp (pt_cmpR op_eq (pe_fld (pv 0) rfl) pe_int (nomark _)) (pv 1) (pe_op op_sub (pe_gint rfl T.c_ONE) (pv 1)))))), ?_⟩
      try dsimp only [cxOf]
      refine i_start (σ' := [some _, none]) rfl ?_
      walk_at "rd"
      have k : Q (.int (if l = 1 then rnGive n else 16777216 - rnGive n)) H := k
      refine iteD (fun hb => ?_) (fun hb => ?_)
      · rw [if_pos hb] at k
        walk_at "rd"
        exact k
      · rw [if_neg hb] at k
        walk_at "rd"
        exact k
    | ev _ _ => exact hg.elim
    | qk _ => exact hg.elim
--%% Run_seen
theorem sc_Run_seen : FnScope ["self", "bit"] ["self", "bit"] (defScope s_Run_seen) := scMk (by decide +kernel)
theorem ok_Run_seen (T : Txt K mg a) : FnOk P w K mg base (CXe P w) 4 a.f_Run_seen a.d_Run_seen ["self", "bit"] (sp_sseen K (oS a) isRn a.C_NoBit) := by
  refine T.y_Run_seen.F.okE sc_Run_seen (fun vs H Q E h => ?_) (fun cdv A outer s H vs Q E hr h => ?_)
  · obtain ⟨p, dx, s, x, n, rfl, _⟩ := h
    rfl
  · obtain ⟨p, dx, s', x, nm, rfl, hg, hs, hp, ty, k1, k2⟩ := h
    cases s' with
    | rn l n =>
      obtain ⟨h1, h2, h3, h4⟩ := hs
      have hp : H p = some (.ins a.C_Run dx (F_Run (.int l) (.int n))) := hp
      refine ⟨_, (pss_cons (ps_expr (pe_callE (ok_check_bit T) (hr.mono (by decide)) rfl T.y_check_bit.m T.y_check_bit.F.kp T.y_check_bit.B .nil catch_fn (pa_cons (pv 1) pa_nil (star_ok rfl)))) (pss_one (ps_if (pt_cmpR op_eq (pv 1) (pe_fld (pv 0) rfl) (nomark _)) (pss_one (ps_fld (pv 0) (pe_callB (call_min2 rfl) rfl T.z_min (by decide +kernel) (pa_cons (pe_op op_add (pe_fld (pv 0) rfl) pe_int) (pa_cons (pe_gint rfl T.c_MOST_COUNTED) pa_nil (star_ok rfl)) (star_ok rfl))) rfl)) (pss_cons (ps_fld (pv 0) (pv 1) rfl) (pss_one (ps_fld (pv 0) pe_int rfl)))))), ?_⟩
      try dsimp only [cxOf]
      refine i_start (σ' := [some _, some _]) rfl ?_
      walk_at "rd"
      refine ⟨x, nm, rfl, ty, fun hx => ?_, k2⟩
      obtain ⟨b, rfl, b0, b1⟩ := of_bit hx
      have k := k1 b rfl b0 b1
      unfold Slt.see at k
      dsimp only at k
      walk_at "rd"
      refine iteD (fun hb => ?_) (fun hb => ?_)
      · rw [if_pos hb] at k
        walk_at "rd"
        refine ⟨_, _, rfl, ?_⟩
        walk_at "rd"
        exact k _ upd_same But.upd
      · rw [if_neg hb] at k
        walk_at "rd"
        exact k _ upd_same (But.upd.trans But.upd)
    | ev _ _ => exact hg.elim
    | qk _ => exact hg.elim
--%% slot_of
theorem sc_slot_of : FnScope ["kind"] ["kind"] (defScope s_slot_of) := scMk (by decide +kernel)
def sp_slot_of (a : Ads) : Sp := fun vs H Q _ => ∃ k : Fin 3, vs = [.str (kdS k)] ∧ ∀ p dx H', H p = none → H' p = some (oS a dx (kd0 k)) → Same H H' → Q (.ref p) H'
theorem ok_slot_of (T : Txt K mg a) : FnOk P w K mg base CX0 3 a.f_slot_of a.d_slot_of ["kind"] (sp_slot_of a) := by
  refine T.y_slot_of.F.ok sc_slot_of (fun vs H Q E h => ?_) (fun cdv A outer s H vs Q E hr h => ?_)
  · obtain ⟨k, rfl, _⟩ := h
    rfl
  · obtain ⟨kk, rfl, k⟩ := h
    refine ⟨_, (pss_cons (ps_if (pt_cmpR op_eq (pv 0) pe_str (nomark _)) (pss_one (ps_ret (pe_make0 T.k_Even (ok_Even___init__ T) (hr.mono (by decide)) rfl T.m_Even T.y_Even___init__.B .nil pass0))) pss_nil) (pss_cons (ps_if (pt_cmpR op_eq (pv 0) pe_str (nomark _)) (pss_one (ps_ret (pe_make0 T.k_Quick (ok_Quick___init__ T) (hr.mono (by decide)) rfl T.m_Quick T.y_Quick___init__.B .nil pass0))) pss_nil) (pss_cons (ps_if (pt_cmpR op_eq (pv 0) pe_str (nomark _)) (pss_one (ps_ret (pe_make0 T.k_Run (ok_Run___init__ T) (hr.mono (by decide)) rfl T.m_Run T.y_Run___init__.B .nil pass0))) pss_nil) (pss_one ps_never)))), ?_⟩
    try dsimp only [cxOf]
    refine i_start (σ' := [some _]) rfl ?_
    walk_at "rd"
    refine ⟨rfl, ?_⟩
    match kk with
    | 0 =>
      refine ⟨_, rfl, iteDp rfl ?_⟩
      walk_at "rd"
      intro p dx np ndx ne
      refine ⟨p, dx, rfl, upd_same, fun H1 hp1 B1 => ⟨rfl, ?_⟩⟩
      exact k p dx H1 np hp1 fun b o e => B1 b o (by rw [upd_ne (ne_of_none e np), upd_ne (ne_of_none e ndx)]; exact e) (ne_of_none e np)
    | 1 =>
      refine ⟨_, rfl, iteDn (by intro z; injection z with z; revert z; decide +kernel) ?_⟩
      walk_at "rd"
      refine ⟨rfl, ?_⟩
      refine ⟨_, rfl, iteDp rfl ?_⟩
      walk_at "rd"
      intro p dx np ndx ne
      refine ⟨p, dx, rfl, upd_same, fun H1 hp1 B1 => ⟨rfl, ?_⟩⟩
      exact k p dx H1 np hp1 fun b o e => B1 b o (by rw [upd_ne (ne_of_none e np), upd_ne (ne_of_none e ndx)]; exact e) (ne_of_none e np)
    | 2 =>
      refine ⟨_, rfl, iteDn (by intro z; injection z with z; revert z; decide +kernel) ?_⟩
      walk_at "rd"
      refine ⟨rfl, ?_⟩
      refine ⟨_, rfl, iteDn (by intro z; injection z with z; revert z; decide +kernel) ?_⟩
      walk_at "rd"
      refine ⟨rfl, ?_⟩
      refine ⟨_, rfl, iteDp rfl ?_⟩
      walk_at "rd"
      intro p dx np ndx ne
      refine ⟨p, dx, rfl, upd_same, fun H1 hp1 B1 => ⟨rfl, ?_⟩⟩
      exact k p dx H1 np hp1 fun b o e => B1 b o (by rw [upd_ne (ne_of_none e np), upd_ne (ne_of_none e ndx)]; exact e) (ne_of_none e np)
--%% is_kind
theorem sc_is_kind : FnScope ["thing"] ["thing"] (defScope s_is_kind) := scMk (by decide +kernel)
def sp_is_kind (K : PySem.W.Frag) : Sp := fun vs H Q _ => ∃ x n, vs = [x] ∧ TyOf K H x (.type n) ∧ Q (.bl (kindV x)) H
theorem ok_is_kind (T : Txt K mg a) : FnOk P w K mg base CX0 1 a.f_is_kind a.d_is_kind ["thing"] (sp_is_kind K) := by
  refine T.y_is_kind.F.ok sc_is_kind (fun vs H Q E h => ?_) (fun cdv A outer s H vs Q E hr h => ?_)
  · obtain ⟨x, n, rfl, _⟩ := h
    rfl
  · obtain ⟨x, n, rfl, ty, k⟩ := h
    refine ⟨_, (pss_one (ps_ret (pe_and (pe_callB call_isinst rfl T.z_isinstance (by decide +kernel) (pa_cons (pv 0) (pa_cons (pe_bty (T := "str") rfl T.z_str (by decide +kernel)) pa_nil (star_ok rfl)) (star_ok rfl))) (pe_one (pe_cmpR op_in_seq (pv 0) (pe_gref rfl T.m_KINDS) (by with_unfolding_all rfl)))))), ?_⟩
    try dsimp only [cxOf]
    refine i_start (σ' := [some _]) rfl ?_
    walk_at "rd"
    refine i_isi ty (kit_strM ty) ?_
    walk_at "rd"
    by_cases hn : n = "str"
    · obtain ⟨s', rfl⟩ : ∃ s', x = .str s' := by
        cases ty with
        | str s' => exact ⟨s', rfl⟩
        | _ => exact absurd hn (by decide)
      rw [decide_eq_true hn]
      refine iteT ?_
      walk_at "rd"
      exact ⟨a.W_KINDS, _, rfl, .inr (T.w_KINDS H), rfl, rfl, k⟩
    · have e : kindV x = false := by
        cases ty with
        | str s' => exact absurd rfl hn
        | _ => rfl
      rw [decide_eq_false hn]
      rw [e] at k
      exact iteF k
--%% is_place
theorem sc_is_place : FnScope ["thing"] ["thing"] (defScope s_is_place) := scMk (by decide +kernel)
def sp_is_place (K : PySem.W.Frag) : Sp := fun vs H Q _ => ∃ x n, vs = [x] ∧ TyOf K H x (.type n) ∧ Q (.bl (plV x)) H
theorem ok_is_place (T : Txt K mg a) : FnOk P w K mg base CX0 2 a.f_is_place a.d_is_place ["thing"] (sp_is_place K) := by
  refine T.y_is_place.F.ok sc_is_place (fun vs H Q E h => ?_) (fun cdv A outer s H vs Q E hr h => ?_)
  · obtain ⟨x, n, rfl, _⟩ := h
    rfl
  · obtain ⟨x, n, rfl, ty, k⟩ := h
    refine ⟨_, (pss_one (ps_ret (pe_and (pe_call (ok_is_whole T) (hr.mono (by decide)) rfl T.y_is_whole.m T.y_is_whole.F.kp T.y_is_whole.B .nil pass0 (pa_cons (pv 0) pa_nil (star_ok rfl))) (pe_one (pe_chain op_le op_le pe_int (pv 0) (pe_gint rfl T.c_FARTHEST)))))), ?_⟩
    try dsimp only [cxOf]
    refine i_start (σ' := [some _]) rfl ?_
    walk_at "rd"
    refine ⟨x, n, rfl, ty, ?_⟩
    walk_at "rd"
    cases hx : wholeV x with
    | false =>
      have e : plV x = false := by
        cases x <;> first | rfl | cases hx
      rw [e] at k
      exact iteF k
    | true =>
      obtain ⟨i, rfl⟩ := wholeV_int hx
      refine iteT ?_
      walk_at "rd"
      refine iteD (fun h0 => ?_) (fun h0 => ?_)
      · walk_at "rd"
        have e : plV (.int i) = decide (i ≤ 8) := by simp [plV, h0]
        rw [e] at k
        exact k
      · have e : plV (.int i) = false := by simp [plV, h0]
        rw [e] at k
        exact k
--%% are_places
theorem sc_are_places : FnScope ["thing"] ["thing"] (defScope s_are_places) := scMk (by decide +kernel)
def sp_are_places (K : PySem.W.Frag) : Sp := fun vs H Q _ => ∃ x b, vs = [x] ∧ PlB K H x b ∧ ∀ H', Same H H' → Q (.bl b) H'
theorem ok_are_places (T : Txt K mg a) : FnOk P w K mg base CX0 3 a.f_are_places a.d_are_places ["thing"] (sp_are_places K) := by
  refine T.y_are_places.F.ok sc_are_places (fun vs H Q E h => ?_) (fun cdv A outer s H vs Q E hr h => ?_)
  · obtain ⟨x, b, rfl, _⟩ := h
    rfl
  · obtain ⟨x, b, rfl, hb, k⟩ := h
    refine ⟨_, (pss_cons (ps_if (PW.pt (pw_or (pt_not (pt_val (pe_callB call_isinst rfl T.z_isinstance (by decide +kernel) (pa_cons (pv 0) (pa_cons (pe_bty (T := "tuple") rfl T.z_tuple (by decide +kernel)) pa_nil (star_ok rfl)) (star_ok rfl))))) (pw_or (pt_cmpR op_gt (pe_callB call_len_seq rfl T.z_len (by decide +kernel) (pa_cons (pv 0) pa_nil (star_ok rfl))) (pe_gint rfl T.c_MOST_PLACES) (nomark _)) (pw_or1 (pt_not (pt_val (pe_callB (call_all rfl) rfl T.z_all (by decide +kernel) (pa_cons (pe_compF (js := []) (ys := []) rfl (pi_tup (pv 0)) (fun C s2 H2 fp => (pe_call (ok_is_place T) (hr.mono (by decide)) rfl T.y_is_place.m T.y_is_place.F.kp T.y_is_place.B .nil pass0 (pa_cons (pv 0) pa_nil (star_ok rfl)))) rfl rfl (hyc := all_nil) (hrel := all_nil)) pa_nil (star_ok rfl))))))))) (pss_one (ps_ret pe_bl)) pss_nil) (pss_one (ps_ret (pe_callB (call_all rfl) rfl T.z_all (by decide +kernel) (pa_cons (pe_compT (js := []) (ys := []) (xs := ["near", "far"]) (g := gTup K 2 (gCons (gName 0) (gCons (gName 1) gNil))) rfl (pi_zipT rfl T.z_zip (pa_cons (pv 0) (pa_cons (pe_slice (sl_tup.or sl_tupW) (pv 0) (po_some pe_int) po_none) pa_nil (star_ok rfl)) (star_ok rfl))) (fun C s2 H2 fp => (pe_cmpR op_lt (pv 0) (pv 1) (nomark _))) rfl (fun C s2 H2 fp => pg_tup rfl (pgs_cons (pg_name (i := 0) (show List.Nodup ((["near", "far"] : List Str) ++ ([] : List Str)) by decide +kernel) rfl (Or.inl rfl)) (pgs_cons (pg_name (i := 1) (show List.Nodup ((["near", "far"] : List Str) ++ ([] : List Str)) by decide +kernel) rfl (Or.inl rfl)) pgs_nil))) rfl (hyc := all_nil) (hrel := all_nil)) pa_nil (star_ok rfl)))))), ?_⟩
    try dsimp only [cxOf]
    refine i_start (σ' := [some _]) rfl ?_
    rcases hb with ⟨n, ty, hn, rfl⟩ | ⟨t, xs, rfl, ht, hl, hy, rfl⟩
    · walk_at "rd"
      refine i_isi ty (kit_tupM ty) ?_
      walk_at "rd"
      refine iteNn hn ?_
      walk_at "rd"
      exact k _ (Same.refl _)
    · walk_at "rd"
      refine i_isi (.tup ht) (kit_tupM (.tup ht)) ?_
      walk_at "rd"
      refine iteNp rfl ?_
      walk_at "rd"
      refine i_lenT (SqT.of ht) ?_
      walk_at "rd"
      unfold placesV at k
      refine iteD (fun h4 => ?_) (fun h4 => ?_)
      · rw [decide_eq_false (by omega), Bool.false_and, Bool.false_and] at k
        walk_at "rd"
        exact k _ (Same.refl _)
      · rw [decide_eq_true (by omega), Bool.true_and] at k
        walk_at "rd"
        refine ⟨t, rfl, ⟨_, SqT.of ht⟩, fun D hD => ?_⟩
        refine comp_tupM (xs := xs) (fun v => .bl (plV v)) (SqT.of ht) hD (fun i y H2 hy2 S2 hD2 => ?_) (fun H2 S2 hD2 => ?_)
        · obtain ⟨n, tyy⟩ := hy y (List.mem_of_getElem? hy2)
          walk_at "rd"
          refine ⟨y, n, rfl, tysame S2 tyy, ?_⟩
          exact Mp.done hD (line_lt (by omega)) hy2 S2 hD2 rfl
        have e : xs.map (fun v => V.bl (plV v)) = (xs.map plV).map V.bl := by rw [List.map_map]; rfl
        rw [e] at hD2
        walk_at "rd"
        refine ⟨D, _, rfl, SqL.of hD2, ?_⟩
        rw [List.all_map]
        have ea : xs.all (id ∘ plV) = xs.all plV := rfl
        rw [ea]
        have ht2 := S2 _ _ ht
        cases hp : xs.all plV with
        | false =>
          rw [hp, Bool.false_and] at k
          walk_at "rd"
          exact k _ S2
        | true =>
          rw [hp, Bool.true_and] at k
          have hint : ∀ y ∈ xs, ∃ i : Int, y = .int i := fun y hm => by
            have := List.all_eq_true.mp hp y hm
            cases y with
            | int i => exact ⟨i, rfl⟩
            | _ => cases this
          walk_at "rd"
          by_cases hx0 : xs = []
          · refine .inr ⟨t, xs, rfl, SqT.of ht2, ?_, ?_⟩
            · subst hx0
              exact ⟨rfl, rfl⟩
            · refine ⟨t, t, rfl, ⟨_, _, SqT.of ht2, SqT.of ht2⟩, fun D2 hD2' => ?_⟩
              refine zip_ris (xs := xs) hint (by omega) (SqT.of ht2) (by subst hx0; exact SqT.of ht2) hD2' (fun i j σ' H' Q' h => ?_) (fun H4 S4 hD4 => ?_)
              · walk_at "rd"
                exact h
              · walk_at "rd"
                exact ⟨D2, _, rfl, SqL.of hD4, k _ (S2.trans S4)⟩
          · refine .inl ⟨t, xs, rfl, SqT.of ht2, ?_, fun u hu => ?_⟩
            · rintro ⟨z, _⟩
              have e1 : HT.sIx xs.length 0 (some 1) = min 1 xs.length := by
                have := HT.sIx_nat xs.length 0 1
                simpa using this
              rw [e1] at z
              cases xs with
              | nil => exact hx0 rfl
              | cons x r => simp at z
            · rw [cut_one]
              have S3 := same_upd (o := (HO.tup xs.tail)) hu
              have hu3 : upd H2 u (HO.tup xs.tail) u = some (HO.tup xs.tail) := upd_same
              generalize upd H2 u (HO.tup xs.tail) = H3 at S3 hu3 ⊢
              refine ⟨t, u, rfl, ⟨_, _, SqT.of (S3 _ _ ht2), SqT.of hu3⟩, fun D2 hD2' => ?_⟩
              refine zip_ris (xs := xs) hint (by omega) (SqT.of (S3 _ _ ht2)) (SqT.of hu3) hD2' (fun i j σ' H' Q' h => ?_) (fun H4 S4 hD4 => ?_)
              · walk_at "rd"
                exact h
              · walk_at "rd"
                exact ⟨D2, _, rfl, SqL.of hD4, k _ (S2.trans (S3.trans S4))⟩
--%% is_look
theorem sc_is_look : FnScope ["thing"] ["thing"] (defScope s_is_look) := scMk (by decide +kernel)
def sp_is_look (K : PySem.W.Frag) : Sp := fun vs H Q _ => ∃ x b, vs = [x] ∧ LkB K H x b ∧ ∀ H', Same H H' → Q (.bl b) H'
theorem ok_is_look (T : Txt K mg a) : FnOk P w K mg base CX0 4 a.f_is_look a.d_is_look ["thing"] (sp_is_look K) := by
  refine T.y_is_look.F.ok sc_is_look (fun vs H Q E h => ?_) (fun cdv A outer s H vs Q E hr h => ?_)
  · obtain ⟨x, b, rfl, _⟩ := h
    rfl
  · obtain ⟨x, b, rfl, hb, k⟩ := h
    refine ⟨_, (pss_one (ps_ret (pe_and (pe_callB call_isinst rfl T.z_isinstance (by decide +kernel) (pa_cons (pv 0) (pa_cons (pe_bty (T := "tuple") rfl T.z_tuple (by decide +kernel)) pa_nil (star_ok rfl)) (star_ok rfl))) (pe_and (pe_cmpR op_eq (pe_callB call_len_seq rfl T.z_len (by decide +kernel) (pa_cons (pv 0) pa_nil (star_ok rfl))) pe_int (nomark _)) (pe_and (pe_call (ok_is_kind T) (hr.mono (by decide)) rfl T.y_is_kind.m T.y_is_kind.F.kp T.y_is_kind.B .nil pass0 (pa_cons (pe_ix ix_tup (pv 0) pe_int (fun _ _ => rfl)) pa_nil (star_ok rfl))) (pe_one (pe_call (ok_are_places T) (hr.mono (by decide)) rfl T.y_are_places.m T.y_are_places.F.kp T.y_are_places.B .nil pass0 (pa_cons (pe_ix ix_tup (pv 0) pe_int (fun _ _ => rfl)) pa_nil (star_ok rfl))))))))), ?_⟩
    try dsimp only [cxOf]
    refine i_start (σ' := [some _]) rfl ?_
    rcases hb with ⟨n, ty, hn, rfl⟩ | ⟨t, xs, rfl, ht, hb⟩
    · walk_at "rd"
      refine i_isi ty (kit_tupM ty) ?_
      walk_at "rd"
      rw [decide_eq_false hn]
      exact iteF (k _ (Same.refl _))
    · walk_at "rd"
      refine i_isi (.tup ht) (kit_tupM (.tup ht)) ?_
      walk_at "rd"
      refine iteDp rfl ?_
      walk_at "rd"
      refine i_lenT (SqT.of ht) ?_
      walk_at "rd"
      rcases hb with ⟨h2, rfl⟩ | ⟨y, z, n, rfl, ty, hb⟩
      · rw [decide_eq_false (show ¬ ((xs.length : Int) = 2) by omega)]
        exact iteF (k _ (Same.refl _))
      · refine iteDp rfl ?_
        walk_at "rd"
        refine i_ixT (SqT.of ht) (atI_nat (j := 0) rfl) ?_
        walk_at "rd"
        refine ⟨y, n, rfl, ty, ?_⟩
        rcases hb with ⟨hk, rfl⟩ | ⟨hk, hp⟩
        · rw [hk]
          walk_at "rd"
          exact k _ (Same.refl _)
        · rw [hk]
          walk_at "rd"
          refine i_ixT (SqT.of ht) (atI_nat (j := 1) rfl) ?_
          walk_at "rd"
          exact ⟨z, b, rfl, hp, k⟩
--%% checked_looks
theorem sc_checked_looks : FnScope ["thing"] ["thing"] (defScope s_checked_looks) := scMk (by decide +kernel)
/-- what checked_looks tells: a list of things of which is_look tells bs, or no list at all -/
def sp_clooks (K : PySem.W.Frag) (C : Addr) : Sp := fun vs H Q E => (∃ x n, vs = [x] ∧ TyOf K H x (.type n) ∧ n ≠ "list" ∧ E (.ref C) none H) ∨
  ∃ (l : Addr) (xs : List V) (bs : List Bool), vs = [.ref l] ∧ H l = some (.lst xs) ∧ xs.length ≤ 1000 ∧ LkBs K H xs bs ∧
    ((1 ≤ xs.length ∧ xs.length ≤ 6 ∧ bs.all id = true) → ∀ r H', H r = none → H' r = some (.lst xs) → Same H H' → Q (.ref r) H') ∧
    (¬ (1 ≤ xs.length ∧ xs.length ≤ 6 ∧ bs.all id = true) → ∀ H', Same H H' → E (.ref C) none H')
theorem ok_checked_looks (T : Txt K mg a) : FnOk P w K mg base (CXe P w) 5 a.f_checked_looks a.d_checked_looks ["thing"] (sp_clooks K a.C_NoLooks) := by
  refine T.y_checked_looks.F.okE sc_checked_looks (fun vs H Q E h => ?_) (fun cdv A outer s H vs Q E hr h => ?_)
  · rcases h with ⟨x, n, rfl, _⟩ | ⟨l, xs, f, rfl, _⟩
    · rfl
    · rfl
  · rcases h with ⟨x, n, rfl, ty, hn, k⟩ | ⟨l, xs, bs, rfl, hl, hz, hy, k1, k2⟩
    · refine ⟨_, (pss_cons (ps_if (PW.pt (pw_or (pt_not (pt_val (pe_callB call_isinst rfl T.z_isinstance (by decide +kernel) (pa_cons (pv 0) (pa_cons (pe_bty (T := "list") rfl T.z_list (by decide +kernel)) pa_nil (star_ok rfl)) (star_ok rfl))))) (pw_or (pt_not (pt_chain op_le op_le pe_int (pe_callB call_len_seq rfl T.z_len (by decide +kernel) (pa_cons (pv 0) pa_nil (star_ok rfl))) (pe_gint rfl T.c_MOST_LOOKS))) (pw_or1 (pt_not (pt_val (pe_callB (call_all rfl) rfl T.z_all (by decide +kernel) (pa_cons (pe_compF (js := []) (ys := []) rfl (pi_list (pv 0)) (fun C s2 H2 fp => (pe_call (ok_is_look T) (hr.mono (by decide)) rfl T.y_is_look.m T.y_is_look.F.kp T.y_is_look.B .nil pass0 (pa_cons (pv 0) pa_nil (star_ok rfl)))) rfl rfl (hyc := all_nil) (hrel := all_nil)) pa_nil (star_ok rfl))))))))) (pss_one (ps_raise rfl T.m_NoLooks T.r_NoLooks (pa_cons pe_str pa_nil (star_ok rfl)))) pss_nil) (pss_one (ps_ret (pe_callTy call_list_of rfl T.z_list (by decide +kernel) (pa_cons (pv 0) pa_nil (star_ok rfl)))))), ?_⟩
      refine i_start (σ' := [some _]) rfl ?_
      walk_at "rd"
      refine i_isi ty (kit_lstL ty) ?_
      walk_at "rd"
      refine iteNn hn ?_
      walk_at "rd"
      exact ⟨by walk_at "len", k⟩
    · refine ⟨_, (pss_cons (ps_if (PW.pt (pw_or (pt_not (pt_val (pe_callB call_isinst rfl T.z_isinstance (by decide +kernel) (pa_cons (pv 0) (pa_cons (pe_bty (T := "list") rfl T.z_list (by decide +kernel)) pa_nil (star_ok rfl)) (star_ok rfl))))) (pw_or (pt_not (pt_chain op_le op_le pe_int (pe_callB call_len_seq rfl T.z_len (by decide +kernel) (pa_cons (pv 0) pa_nil (star_ok rfl))) (pe_gint rfl T.c_MOST_LOOKS))) (pw_or1 (pt_not (pt_val (pe_callB (call_all rfl) rfl T.z_all (by decide +kernel) (pa_cons (pe_compF (js := []) (ys := []) rfl (pi_list (pv 0)) (fun C s2 H2 fp => (pe_call (ok_is_look T) (hr.mono (by decide)) rfl T.y_is_look.m T.y_is_look.F.kp T.y_is_look.B .nil pass0 (pa_cons (pv 0) pa_nil (star_ok rfl)))) rfl rfl (hyc := all_nil) (hrel := all_nil)) pa_nil (star_ok rfl))))))))) (pss_one (ps_raise rfl T.m_NoLooks T.r_NoLooks (pa_cons pe_str pa_nil (star_ok rfl)))) pss_nil) (pss_one (ps_ret (pe_callTy call_list_of rfl T.z_list (by decide +kernel) (pa_cons (pv 0) pa_nil (star_ok rfl)))))), ?_⟩
      refine i_start (σ' := [some _]) rfl ?_
      walk_at "rd"
      refine i_isi (.lst hl) (kit_lstL (.lst hl)) ?_
      walk_at "rd"
      refine iteNp rfl ?_
      walk_at "rd"
      refine i_len (SqL.of hl) ?_
      walk_at "rd"
      refine iteD (fun h1 => ?_) (fun h1 => ?_)
      · walk_at "rd"
        refine iteN (fun h6 => ?_) (fun h6 => ?_)
        · walk_at "rd"
          refine ⟨l, rfl, ⟨_, SqL.of hl⟩, fun D hD => ?_⟩
          refine comp_list (K := K) (xs := xs) (Mp H D (fun i => V.bl ((bs[i]?).getD false))) (Mp.zero hD) (fun _ _ _ p => p.1.seq (SqL.of hl)) (fun i y H2 hy2 hi p => ?_) (fun H2 p => ?_)
          · obtain ⟨S2, hD2⟩ := p
            have hib : i < bs.length := by rw [← hy.1]; exact hi
            walk_at "rd"
            refine ⟨y, bs[i], rfl, (hy.2 i y _ hy2 (List.getElem?_eq_getElem hib)).same S2, fun H3 S3 => ?_⟩
            refine Mp.doneR hD (line_lt (by omega)) hi (S2.trans S3) (S3 _ _ hD2) ?_
            rw [List.getElem?_eq_getElem hib]
            rfl
          obtain ⟨S2, hD2⟩ := p
          rw [bl_range bs hy.1] at hD2
          walk_at "rd"
          refine ⟨D, _, rfl, SqL.of hD2, ?_⟩
          have hl2 := S2 _ _ hl
          cases hp : bs.all id with
          | false =>
            walk_at "rd"
            exact ⟨by walk_at "len", k2 (by rw [hp]; rintro ⟨_, _, z⟩; cases z) _ S2⟩
          | true =>
            walk_at "rd"
            refine i_listof (SqL.of hl2) fun r hr0 => ?_
            exact k1 ⟨by omega, by omega, hp⟩ r _ (S2.free hr0) upd_same (S2.trans (same_upd hr0))
        · walk_at "rd"
          exact ⟨by walk_at "len", k2 (by omega) _ (Same.refl _)⟩
      · walk_at "rd"
        exact ⟨by walk_at "len", k2 (by omega) _ (Same.refl _)⟩
--%% sign_back
theorem sc_sign_back : FnScope ["signs", "place"] ["signs", "place"] (defScope s_sign_back) := scMk (by decide +kernel)
def sp_sback (K : PySem.W.Frag) : Sp := fun vs H Q _ => ∃ (l : Addr) (sg : List Int) (p : Int), vs = [.ref l, .int p] ∧ SqL K H l (sg.map V.int) ∧ 1 ≤ p ∧ Q (.int (back sg p)) H
theorem ok_sign_back (T : Txt K mg a) : FnOk P w K mg base CX0 1 a.f_sign_back a.d_sign_back ["signs", "place"] (sp_sback K) := by
  refine T.y_sign_back.F.ok sc_sign_back (fun vs H Q E h => ?_) (fun cdv A outer s H vs Q E hr h => ?_)
  · obtain ⟨l, sg, p, rfl, _⟩ := h
    rfl
  · obtain ⟨l, sg, p, rfl, hl, hp, k⟩ := h
    refine ⟨_, (pss_one (ps_ret (pe_ifExp (pt_cmpR op_le (pv 1) (pe_callB call_len_seq rfl T.z_len (by decide +kernel) (pa_cons (pv 0) pa_nil (star_ok rfl))) (nomark _)) (pe_ix ix_list (pv 0) (pe_un un_neg (pv 1)) (fun _ _ => rfl)) (pe_gint rfl T.c_NO_SIGN)))), ?_⟩
    try dsimp only [cxOf]
    refine i_start (σ' := [some _, some _]) rfl ?_
    walk_at "rd"
    refine i_len hl ?_
    rw [List.length_map]
    walk_at "rd"
    unfold back at k
    refine iteD (fun hb => ?_) (fun hb => ?_)
    · rw [if_pos hb] at k
      obtain ⟨c, hc, _⟩ := atI_back hp hb
      rw [hc] at k
      walk_at "rd"
      exact i_ixL hl (by rw [map_atI, hc]; rfl) k
    · rw [if_neg hb] at k
      walk_at "rd"
      exact k
--%% context_of
theorem sc_context_of : FnScope ["look", "signs", "node"] ["look", "signs", "node"] (defScope s_context_of) := scMk (by decide +kernel)
/-- the kind and the places of a look that lies at k -/
def LookAt (K : PySem.W.Frag) (H : Hp) (k : Addr) (x : V) (ps : List Int) : Prop := ∃ t, SqT K H k [x, .ref t] ∧ SqT K H t (ps.map V.int) ∧ (∀ p ∈ ps, 1 ≤ p ∧ p ≤ 8) ∧ ps.length ≤ 4
theorem LookAt.same {K : PySem.W.Frag} {H H' : Hp} {k : Addr} {x : V} {ps : List Int} (S : Same H H') (h : LookAt K H k x ps) : LookAt K H' k x ps := by
  obtain ⟨t, h1, h2, h3, h4⟩ := h
  exact ⟨t, S.tup h1, S.tup h2, h3, h4⟩
def ctx (ps sg : List Int) (nd : Int) : List Int := ps.map (back sg) ++ [nd]
def bkV (sg : List Int) : V → V
  | .int p => .int (back sg p)
  | _ => .non
theorem bkV_map (sg ps : List Int) : (ps.map V.int).map (bkV sg) = (ps.map (back sg)).map V.int := by
  rw [List.map_map, List.map_map]
  rfl
def sp_context (K : PySem.W.Frag) : Sp := fun vs H Q _ => ∃ (k l : Addr) (x : V) (ps sg : List Int) (nd : Int), vs = [.ref k, .ref l, .int nd] ∧ LookAt K H k x ps ∧ SqL K H l (sg.map V.int) ∧
  ∀ r H', H r = none → H' r = some (.tup ((ctx ps sg nd).map V.int)) → Same H H' → Q (.ref r) H'
theorem ok_context_of (T : Txt K mg a) : FnOk P w K mg base CX0 2 a.f_context_of a.d_context_of ["look", "signs", "node"] (sp_context K) := by
  refine T.y_context_of.F.ok sc_context_of (fun vs H Q E h => ?_) (fun cdv A outer s H vs Q E hr h => ?_)
  · obtain ⟨k, l, x, ps, sg, nd, rfl, _⟩ := h
    rfl
  · obtain ⟨ka, l, x, ps, sg, nd, rfl, ⟨t, hk, ht, hps, hpl⟩, hl, k⟩ := h
    refine ⟨_, (pss_one (ps_ret (pe_callTy call_tuple_of rfl T.z_tuple (by decide +kernel) (pa_cons (pe_op op_cat (pe_compF (js := [1]) (ys := ["signs"]) rfl (pi_tup (pe_ix ix_tup (pv 0) pe_int (fun _ _ => rfl))) (fun C s2 H2 fp => (pe_call (ok_sign_back T) (hr.mono (by decide)) rfl T.y_sign_back.m T.y_sign_back.F.kp T.y_sign_back.B .nil pass0 (pa_cons (pv 1) (pa_cons (pv 0) pa_nil (star_ok rfl)) (star_ok rfl)))) rfl rfl (hyc := (all_cons rfl all_nil)) (hrel := (all_cons rfl all_nil))) (pe_lst (pa_cons (pv 2) pa_nil (star_ok rfl)))) pa_nil (star_ok rfl))))), ?_⟩
    try dsimp only [cxOf]
    refine i_start (σ' := [some _, some _, some _]) rfl ?_
    walk_at "rd"
    refine i_ixT hk (atI_nat (j := 1) rfl) ?_
    refine ⟨t, rfl, ⟨_, ht⟩, fun D hD => ?_⟩
    have hpz : (ps.map V.int).length < sizeLine := line_lt (by rw [List.length_map]; omega)
    refine compF_tupM (xs := ps.map V.int) (bkV sg) ht hD (fun i y H2 hy S2 hD2 => ?_) (fun H2 S2 hD2 => ?_)
    · obtain ⟨p, rfl, hpm, _, _⟩ := getInt hy
      walk_at "rd"
      refine ⟨l, sg, p, rfl, S2.seq hl, (hps p hpm).1, ?_⟩
      exact Mp.done hD hpz hy S2 hD2 rfl
    · rw [bkV_map] at hD2
      walk_at "rd"
      refine ⟨by walk_at "len", fun n hn => ?_⟩
      with_reducible first | refine new_obj2 hn fun H3 S3 hn3 => ?_ | refine new_obj hn fun H3 S3 hn3 => ?_
      refine ⟨D, n, _, _, rfl, rfl, S3 _ _ hD2, hn3, line_le (by rw [List.length_map, List.length_map]; show _ + 1 ≤ _; omega), fun c hc => ?_⟩
      with_reducible first | refine new_obj2 hc fun H4 S4 hc4 => ?_ | refine new_obj hc fun H4 S4 hc4 => ?_
      refine ⟨c, _, rfl, .inl ⟨SqL.of hc4, fun r hr0 => ?_⟩⟩
      have S := S2.trans (S3.trans S4)
      refine k r _ (S.free hr0) (upd_same.trans ?_) (S.trans (same_upd hr0))
      unfold ctx
      rw [List.map_append]
      rfl
--%% Book___init__
theorem sc_Book___init__ : FnScope ["self", "look"] ["self", "look"] (defScope s_Book___init__) := scMk (by decide +kernel)
def sp_bkinit (a : Ads) : Sp := fun vs H Q _ => ∃ (p dx lk : Addr) (kd : Fin 3), vs = [.ref p, .ref lk] ∧ H p = some (.ins a.C_Book dx []) ∧ ∀ d H', H d = none → BkAt a H' p dx lk d kd (fun _ => none) (fun b => b = d) 0 → But p H H' → Q .non H'
theorem ok_Book___init__ (T : Txt K mg a) : FnOk P w K mg base CX0 1 a.f_Book___init__ a.d_Book___init__ ["self", "look"] (sp_bkinit a) := by
  refine T.y_Book___init__.F.ok sc_Book___init__ (fun vs H Q E h => ?_) (fun cdv A outer s H vs Q E hr h => ?_)
  · obtain ⟨p, dx, lk, kd, rfl, _⟩ := h
    rfl
  · obtain ⟨p, dx, lk, kd, rfl, hp, k⟩ := h
    refine ⟨_, (pss_cons (ps_fld (pv 0) (pv 1) rfl) (pss_one (ps_fld (pv 0) pe_dnewT rfl))), ?_⟩
    try dsimp only [cxOf]
    refine i_start (σ' := [some _, some _]) rfl ?_
    walk_at "rd"
    intro d hd
    have hd0 : H d = none := by
      cases e : H d with
      | none => rfl
      | some o =>
        by_cases z : d = p
        · rw [z, upd_same] at hd; cases hd
        · rw [upd_ne z, e] at hd; cases hd
    have ndp : d ≠ p := fun z => by rw [z, hp] at hd0; cases hd0
    have hp2 := upd_new (o' := HO.dT []) hd (show upd H p (HO.ins a.C_Book dx ([("look", V.ref lk)] : List (Str × V))) p = some (HO.ins a.C_Book dx ([("look", V.ref lk)] : List (Str × V))) from upd_same)
    have hd2 : upd (upd H p (HO.ins a.C_Book dx ([("look", V.ref lk)] : List (Str × V)))) d (.dT []) d = some (.dT []) := upd_same
    have B2 : But p H (upd (upd H p (HO.ins a.C_Book dx ([("look", V.ref lk)] : List (Str × V)))) d (.dT [])) := fun b o e n => by rw [upd_ne (ne_of_none e hd0), upd_ne n]; exact e
    generalize upd (upd H p (HO.ins a.C_Book dx ([("look", V.ref lk)] : List (Str × V)))) d (.dT []) = H2 at hp2 hd2 B2 ⊢
    walk_at "rd"
    refine k d _ hd0 ⟨upd_same, fun b hb => ⟨HO.dT [], by cases hb; exact upd_oth ndp hd2, rfl⟩, fun z => ndp z.symm, rfl, fun kvs e => (by cases (upd_oth ndp hd2).symm.trans e; exact ⟨List.nodup_nil, fun _ z => (nomatch z)⟩), [], fun _ => (0, 0), upd_oth ndp hd2, Nat.le_refl _, fun _ _ => rfl, fun _ _ z => (nomatch z), fun _ _ _ _ z => (nomatch z)⟩ (B2.trans But.upd)
--%% Book_slot_at
theorem sc_Book_slot_at : FnScope ["self", "signs", "node", "context"] ["self", "signs", "node"] (defScope s_Book_slot_at) := scMk (by decide +kernel)
def sp_bkslot (K : PySem.W.Frag) (a : Ads) : Sp := fun vs H Q _ => ∃ (p dx lk d sl : Addr) (kd : Fin 3) (f : List Int → Option Slt) (O : Addr → Prop) (m : Nat) (ps sg : List Int) (nd : Int), vs = [.ref p, .ref sl, .int nd] ∧ BkAt a H p dx lk d kd f O m ∧ m < 1000000 ∧ LookAt K H lk (.str (kdS kd)) ps ∧ SqL K H sl (sg.map V.int) ∧
  ∀ (q : Addr) (O' : Addr → Prop) (H' : Hp), BkAt a H' p dx lk d kd (updF f (ctx ps sg nd) ((f (ctx ps sg nd)).getD (kd0 kd))) O' (m + 1) → (∀ kvs, H' d = some (.dT kvs) → valV kvs (kI (ctx ps sg nd)) = some (.ref q)) → (∀ c, O' c → O c ∨ H c = none) → (∀ c, O c → O' c) → ButO O H H' → Q (.ref q) H'
theorem ok_Book_slot_at (T : Txt K mg a) : FnOk P w K mg base CX0 4 a.f_Book_slot_at a.d_Book_slot_at ["self", "signs", "node"] (sp_bkslot K a) := by
  refine T.y_Book_slot_at.F.ok sc_Book_slot_at (fun vs H Q E h => ?_) (fun cdv A outer s H vs Q E hr h => ?_)
  · obtain ⟨p, dx, lk, d, sl, kd, f, O, m, ps, sg, nd, rfl, _⟩ := h
    rfl
  · obtain ⟨p, dx, lk, d, sl, kd, f, O, m, ps, sg, nd, rfl, hb, hm, hl, hs, k⟩ := h
    have hme := hb.me
    refine ⟨_, (pss_cons (ps_set (i := 3) sc_Book_slot_at.nd rfl (Or.inl rfl) (pe_call (ok_context_of T) (hr.mono (by decide)) rfl T.y_context_of.m T.y_context_of.F.kp T.y_context_of.B .nil pass0 (pa_cons (pe_fld (pv 0) rfl) (pa_cons (pv 1) (pa_cons (pv 2) pa_nil (star_ok rfl)) (star_ok rfl)) (star_ok rfl)))) (pss_cons (ps_mid (ps_if (pt_cmp (pc_dnotin (hu_of hr) (pv 3) (pe_fld (pv 0) rfl))) (pss_one (ps_dput (hu_of hr) (pe_fld (pv 0) rfl) (pv 3) (pe_call (ok_slot_of T) (hr.mono (by decide)) rfl T.y_slot_of.m T.y_slot_of.F.kp T.y_slot_of.B .nil pass0 (pa_cons (pe_ix ix_tup (pe_fld (pv 0) rfl) pe_int (fun _ _ => rfl)) pa_nil (star_ok rfl))) rfl)) pss_nil)) (pss_one (ps_ret (pe_dget (hu_of hr) (pe_fld (pv 0) rfl) (pv 3) (fun _ _ => rfl)))))), ?_⟩
    try dsimp only [cxOf]
    refine i_start (σ' := [some _, some _, some _, none]) rfl ?_
    walk_at "rd"
    refine ⟨lk, sl, _, ps, sg, nd, rfl, hl, hs, fun r H1 hr0 hr1 S1 => ?_⟩
    have hr1' : H1 r = some (.tup ((kI (ctx ps sg nd)).map kV)) := by rw [kI_map]; exact hr1
    generalize ctx ps sg nd = key at hr1' k
    have hb1 := hb.same S1
    have hme1 := hb1.me
    walk_at "rd"
    refine i_mid (fun σ' H' => σ' = [some (.ref p), some (.ref sl), some (.int nd), some (.ref r)] ∧ ∃ O', BkAt a H' p dx lk d kd (updF f key ((f key).getD (kd0 kd))) O' (m + 1) ∧ (∀ c, O' c → O c ∨ H c = none) ∧ (∀ c, O c → O' c) ∧ ButO O H H' ∧ H' r = some (.tup ((kI key).map kV))) ?_ ?_
    · obtain ⟨kvs, loc, h1, h2, h3, h4, h5⟩ := hb1.tb
      walk_at "rd"
      refine ⟨d, _, rfl, DGet.t h1 hr1', ?_⟩
      cases hf : f key with
      | none =>
        rw [h3 key hf]
        walk_at "rd"
        refine iteT ?_
        walk_at "rd"
        obtain ⟨t, ht1, ht2, _, _⟩ := hl
        refine i_ixT (S1.tup ht1) (atI_nat (j := 0) rfl) ?_
        walk_at "rd"
        refine ⟨kd, rfl, fun q dq H2 hq0 hq2 S2 => ?_⟩
        walk_at "rd"
        have hme2 := S2 _ _ hme1
        walk_at "rd"
        refine ⟨d, _, rfl, DPut.t (S2 _ _ h1) (S2 _ _ hr1') (line_lt (by omega)), ?_⟩
        have S12 := S1.trans S2
        have nqd : q ≠ d := fun z => by rw [z, h1] at hq0; cases hq0
        have ndp : p ≠ d := fun z => hb1.np (z ▸ hb1.dO)
        walk_at "rd"
        refine ⟨rfl, fun c => O c ∨ c = q, ⟨upd_oth ndp hme2, fun c hc => ?_, fun z => ?_, .inl hb1.dO, KyOk.snoc (hb1.ky kvs h1) (h3 key hf) upd_same, putK kvs (kI key) (.ref q), fun j => if j = key then (q, dq) else loc j, upd_same, ?_, fun j hj => ?_, fun j s' hj => ?_, fun j1 j2 s1 s2 e1 e2 el => ?_⟩, fun c hc => ?_, fun c hc => .inl hc, fun c o e no => ?_, upd_oth (ne_of (S2 _ _ hr1') (S2 _ _ h1) (by intro z; cases z)) (S2 _ _ hr1')⟩
        · rcases hc with hc | rfl
          · obtain ⟨o, ho, hi⟩ := hb1.own c hc
            by_cases z : c = d
            · rw [z]
              exact ⟨_, upd_same, rfl⟩
            · exact ⟨o, upd_oth z (S2 _ _ ho), hi⟩
          · obtain ⟨C, fs, eo⟩ := oS_ins a dq (kd0 kd)
            exact ⟨_, upd_oth nqd hq2, by rw [eo]; rfl⟩
        · rcases z with z | z
          · exact hb1.np z
          · rw [z] at hme1
            rw [hme1] at hq0
            cases hq0
        · rw [putK_new _ (h3 key hf), List.length_append]
          show _ + 1 ≤ m + 1
          omega
        · unfold updF at hj
          split at hj
          · cases hj
          · rename_i hne
            rw [valV_put, if_neg fun z => hne (kI_inj z)]
            exact h3 j hj
        · unfold updF at hj
          split at hj
          · rename_i he
            subst he
            cases hj
            dsimp only
            rw [if_pos rfl, valV_put, if_pos rfl]
            exact ⟨rfl, upd_oth nqd hq2, kd0_ok kd, kind_kd0 kd, .inr rfl⟩
          · rename_i hne
            obtain ⟨q1, q2, q3, q4, q5⟩ := h4 j s' hj
            dsimp only
            rw [if_neg hne, valV_put, if_neg fun z => hne (kI_inj z)]
            have nd2 : (loc j).1 ≠ d := by
              obtain ⟨C, fs, eo⟩ := oS_ins a (loc j).2 s'
              rw [eo] at q2
              exact ne_of q2 h1 (by intro z; cases z)
            exact ⟨q1, upd_oth nd2 (S2 _ _ q2), q3, q4, .inl q5⟩
        · unfold updF at e1 e2
          dsimp only at el
          by_cases z1 : j1 = key
          · by_cases z2 : j2 = key
            · rw [z1, z2]
            · rw [if_neg z2] at e2
              rw [if_pos z1, if_neg z2] at el
              obtain ⟨_, q2, _⟩ := h4 j2 s2 e2
              have el : q = (loc j2).1 := el
              rw [← el, hq0] at q2
              cases q2
          · rw [if_neg z1] at e1
            by_cases z2 : j2 = key
            · rw [if_neg z1, if_pos z2] at el
              obtain ⟨_, q2, _⟩ := h4 j1 s1 e1
              have el : (loc j1).1 = q := el
              rw [el, hq0] at q2
              cases q2
            · rw [if_neg z2] at e2
              rw [if_neg z1, if_neg z2] at el
              exact h5 j1 j2 s1 s2 e1 e2 el
        · rcases hc with hc | rfl
          · exact .inl hc
          · exact .inr (S1.free hq0)
        · exact upd_oth (fun z => no (z ▸ hb1.dO)) (S12 _ _ e)
      | some s' =>
        obtain ⟨q1, q2, q3, q4, q5⟩ := h4 key s' hf
        rw [q1]
        walk_at "rd"
        refine ⟨rfl, O, ?_, fun c hc => .inl hc, fun c hc => hc, fun c o e _ => S1 _ _ e, hr1'⟩
        have ef : updF f key ((some s').getD (kd0 kd)) = f := by
          funext j
          unfold updF
          split
          · rename_i z
            rw [z, hf]
            rfl
          · rfl
        rw [ef]
        exact ⟨hb1.me, hb1.own, hb1.np, hb1.dO, hb1.ky, kvs, loc, h1, Nat.le_succ_of_le h2, h3, h4, h5⟩
    · rintro σ' H2 ⟨rfl, O', hb2, hO, hM, B2, hr2⟩
      have hme2 := hb2.me
      obtain ⟨kvs, loc, h1, h2, h3, h4, h5⟩ := id hb2.tb
      have hk0 : updF f key ((f key).getD (kd0 kd)) key = some ((f key).getD (kd0 kd)) := by unfold updF; rw [if_pos rfl]
      obtain ⟨q1, q2, q3, q4, q5⟩ := h4 key _ hk0
      walk_at "rd"
      refine ⟨d, _, rfl, by rw [← q1]; exact DGet.t h1 hr2, ?_⟩
      exact k (loc key).1 O' H2 hb2 (fun kvs' e => by rw [h1] at e; cases e; exact q1) hO hM B2
--%% Mixer___init__
theorem sc_Mixer___init__ : FnScope ["self", "many"] ["self", "many"] (defScope s_Mixer___init__) := scMk (by decide +kernel)
theorem ok_Mixer___init__ (T : Txt K mg a) : FnOk P w K mg base CX0 1 a.f_Mixer___init__ a.d_Mixer___init__ ["self", "many"] (sp_minit a) := by
  refine T.y_Mixer___init__.F.ok sc_Mixer___init__ (fun vs H Q E h => ?_) (fun cdv A outer s H vs Q E hr h => ?_)
  · obtain ⟨p, dx, n, rfl, _⟩ := h
    rfl
  · obtain ⟨p, dx, n, rfl, n1, n6, hp, k⟩ := h
    refine ⟨_, (pss_one (ps_fld (pv 0) (pe_op op_rep (pe_lst (pa_cons (pe_gint rfl T.c_FIRST_WEIGHT) pa_nil (star_ok rfl))) (pv 1)) rfl)), ?_⟩
    try dsimp only [cxOf]
    refine i_start (σ' := [some _, some _]) rfl ?_
    walk_at "rd"
    refine ⟨by walk_at "len", fun r hr0 => ?_⟩
    with_reducible first | refine new_obj2 hr0 fun H1 S1 e1 => ?_ | refine new_obj hr0 fun H1 S1 e1 => ?_
    walk_at "rd"
    refine ⟨r, n, _, rfl, rfl, e1, by omega, by omega, line_le (by show 1 * (n : Int).toNat ≤ 16000000; omega), fun l hl => ?_⟩
    rw [flat_ints]
    with_reducible first | refine new_obj2 hl fun H2 S2 e2 => ?_ | refine new_obj hl fun H2 S2 e2 => ?_
    have S12 := S1.trans S2
    have hp2 := S12 _ _ hp
    walk_at "rd"
    have npl : l ≠ p := fun z => by rw [z, S1 _ _ hp] at hl; cases hl
    exact k l _ (S1.free hl) ⟨upd_same, upd_oth npl e2⟩ ((But.of S12).trans But.upd)
--%% Mixer_weights
theorem sc_Mixer_weights : FnScope ["self"] ["self"] (defScope s_Mixer_weights) := scMk (by decide +kernel)
theorem ok_Mixer_weights (T : Txt K mg a) : FnOk P w K mg base CX0 1 a.f_Mixer_weights a.d_Mixer_weights ["self"] (sp_mweights a) := by
  refine T.y_Mixer_weights.F.ok sc_Mixer_weights (fun vs H Q E h => ?_) (fun cdv A outer s H vs Q E hr h => ?_)
  · obtain ⟨p, dx, l, ws, rfl, _⟩ := h
    rfl
  · obtain ⟨p, dx, l, ws, rfl, ⟨hp, hl⟩, k⟩ := h
    refine ⟨_, (pss_one (ps_ret (pe_callTy call_list_of rfl T.z_list (by decide +kernel) (pa_cons (pe_fld (pv 0) rfl) pa_nil (star_ok rfl))))), ?_⟩
    try dsimp only [cxOf]
    refine i_start (σ' := [some _]) rfl ?_
    walk_at "rd"
    refine i_listof (SqL.of hl) fun r hr0 => ?_
    exact k r _ hr0 upd_same (same_upd hr0)
--%% Mixer_mixed
theorem sc_Mixer_mixed : FnScope ["self", "chances"] ["self", "chances"] (defScope s_Mixer_mixed) := scMk (by decide +kernel)
theorem ok_Mixer_mixed (T : Txt K mg a) : FnOk P w K mg base CX0 1 a.f_Mixer_mixed a.d_Mixer_mixed ["self", "chances"] (sp_mmixed K a) := by
  refine T.y_Mixer_mixed.F.ok sc_Mixer_mixed (fun vs H Q E h => ?_) (fun cdv A outer s H vs Q E hr h => ?_)
  · obtain ⟨p, dx, l, c, ws, cs, n, rfl, _⟩ := h
    rfl
  · obtain ⟨p, dx, l, c, ws, cs, n, rfl, n1, n6, hw, hc, ⟨hp, hl⟩, hq, k⟩ := h
    refine ⟨_, (pss_one (ps_ret (pe_op op_fdivB (pe_callB (call_sum rfl) rfl T.z_sum (by decide +kernel) (pa_cons (pe_compT (js := []) (ys := []) (xs := ["weight", "chance"]) (g := gTup K 2 (gCons (gName 0) (gCons (gName 1) gNil))) rfl (pi_zip rfl T.z_zip (pa_cons (pe_fld (pv 0) rfl) (pa_cons (pv 1) pa_nil (star_ok rfl)) (star_ok rfl))) (fun C s2 H2 fp => (pe_op op_mul (pv 0) (pv 1))) rfl (fun C s2 H2 fp => pg_tup rfl (pgs_cons (pg_name (i := 0) (show List.Nodup ((["weight", "chance"] : List Str) ++ ([] : List Str)) by decide +kernel) rfl (Or.inl rfl)) (pgs_cons (pg_name (i := 1) (show List.Nodup ((["weight", "chance"] : List Str) ++ ([] : List Str)) by decide +kernel) rfl (Or.inl rfl)) pgs_nil))) rfl (hyc := all_nil) (hrel := all_nil)) pa_nil (star_ok rfl))) (pe_callB (call_sum rfl) rfl T.z_sum (by decide +kernel) (pa_cons (pe_fld (pv 0) rfl) pa_nil (star_ok rfl)))))), ?_⟩
    try dsimp only [cxOf]
    refine i_start (σ' := [some _, some _]) rfl ?_
    have hlen : cs.length = ws.length := by rw [hw.len, hc.len]
    walk_at "rd"
    refine ⟨l, c, rfl, ⟨_, _, SqL.of hl, hq⟩, fun D hD => ?_⟩
    refine compT_zipM (fun i => V.int ((ws[i]?).getD 0 * (cs[i]?).getD 0)) (SqL.of hl) hq (by rw [List.length_map, List.length_map, hlen]) hD (fun i x y H2 tt pre hx hy S2 hD2 htt hpre => ?_) (fun H2 S2 hD2 => ?_)
    · obtain ⟨v1, v2, rfl⟩ := two_of hpre
      obtain ⟨w, rfl, wm, wi, il⟩ := getInt hx
      obtain ⟨u, rfl, um, ui, _⟩ := getInt hy
      have w1 := hw.one w wm
      have w2 := hw.top w wm
      have S3 := S2.trans (same_upd (o := HO.tup [V.int w, V.int u]) htt)
      have hD3 := upd_new (o' := HO.tup [V.int w, V.int u]) htt hD2
      have ht3 : upd H2 tt (HO.tup [V.int w, V.int u]) tt = some (.tup [V.int w, V.int u]) := upd_same
      generalize upd H2 tt (HO.tup [V.int w, V.int u]) = H3 at S3 hD3 ht3
      refine i_gTup (SqT.of ht3) rfl ?_
      show gCons (gName 0) (gCons (gName 1) gNil) [V.int w, V.int u] (v1 :: v2 :: takeS [] [some (V.ref p), some (V.ref c)]) H3 _
      walk_at "rd"
      refine ⟨⟨[some (.int w), some (.int u)], rfl, rfl⟩, ?_⟩
      walk_at "rd"
      refine Mp.doneR hD (line_lt (by rw [List.length_map, hw.len]; omega)) (by rw [List.length_map]; exact il) S3 hD3 ?_
      rw [wi, ui]
      rfl
    · have hD2 := some_lst hD2 (zrange (g := fun w c => w * c) hlen)
      have hp2 := S2 _ _ hp
      have hl2 := S2 _ _ hl
      have p1 := hw.pos n1
      have p2 := hw.small n6
      walk_at "rd"
      refine ⟨D, _, rfl, SqL.of hD2, ?_⟩
      walk_at "rd"
      refine ⟨l, _, rfl, SqL.of hl2, ?_⟩
      walk_at "rd"
      exact k _ S2
--%% Mixer_learn
theorem sc_Mixer_learn : FnScope ["self", "chances", "bit", "shares", "whole", "own", "grown", "dropped"] ["self", "chances", "bit"] (defScope s_Mixer_learn) := scMk (by decide +kernel)
theorem ok_Mixer_learn (T : Txt K mg a) : FnOk P w K mg base (CXe P w) 5 a.f_Mixer_learn a.d_Mixer_learn ["self", "chances", "bit"] (sp_mlearn K a a.C_NoBit) := by
  refine T.y_Mixer_learn.F.okE sc_Mixer_learn (fun vs H Q E h => ?_) (fun cdv A outer s H vs Q E hr h => ?_)
  · obtain ⟨p, dx, l, c, ws, cs, n, x, m, rfl, _⟩ := h
    rfl
  · obtain ⟨p, dx, l, c, ws, cs, n, x, m, rfl, n1, n6, hw, hc, ⟨hp, hl⟩, hq, ty, k1, k2⟩ := h
    refine blk_cons (ps_expr (pe_callE (ok_check_bit T) (hr.mono (by decide)) rfl T.y_check_bit.m T.y_check_bit.F.kp T.y_check_bit.B .nil catch_fn (pa_cons (pv 2) pa_nil (star_ok rfl)))) ?_
    refine blk_cons (ps_compT (i := 3) (js := [2]) (ys := ["bit"]) (xs := ["weight", "chance"]) (g := gTup K 2 (gCons (gName 0) (gCons (gName 1) gNil))) sc_Mixer_learn.nd rfl rfl rfl (pi_zip rfl T.z_zip (pa_cons (pe_fld (pv 0) rfl) (pa_cons (pv 1) pa_nil (star_ok rfl)) (star_ok rfl))) (fun C s2 H2 fp => (pe_op op_mul (pv 0) (pe_callE (ok_gives T) (hr.mono (by decide)) rfl T.y_gives.m T.y_gives.F.kp T.y_gives.B .nil catch_no (pa_cons (pv 1) (pa_cons (pv 2) pa_nil (star_ok rfl)) (star_ok rfl))))) rfl (fun C s2 H2 fp => pg_tup rfl (pgs_cons (pg_name (i := 0) (show List.Nodup ((["weight", "chance"] : List Str) ++ (["bit"] : List Str)) by decide +kernel) rfl (Or.inl rfl)) (pgs_cons (pg_name (i := 1) (show List.Nodup ((["weight", "chance"] : List Str) ++ (["bit"] : List Str)) by decide +kernel) rfl (Or.inl rfl)) pgs_nil))) rfl (hyc := (all_cons rfl all_nil)) (hrel := (all_cons rfl all_nil))) ?_
    refine blk_cons (ps_set (i := 4) sc_Mixer_learn.nd rfl (Or.inr rfl) (pe_callB (call_sum rfl) rfl T.z_sum (by decide +kernel) (pa_cons (pv 3) pa_nil (star_ok rfl)))) ?_
    refine blk_cons (ps_set (i := 5) sc_Mixer_learn.nd rfl (Or.inr rfl) (pe_op op_mul (pe_gint rfl T.c_OWN_PARTS) (pe_callB call_len_seq rfl T.z_len (by decide +kernel) (pa_cons (pv 3) pa_nil (star_ok rfl))))) ?_
    refine blk_cons (ps_compF (i := 6) (js := [4, 5]) (ys := ["whole", "own"]) sc_Mixer_learn.nd rfl rfl rfl (pi_list (pv 3)) (fun C s2 H2 fp => (pe_op op_add (pe_op op_mul (pv 2) (pv 0)) (pv 1))) rfl rfl (hyc := (all_cons rfl (all_cons rfl all_nil))) (hrel := (all_cons rfl (all_cons rfl all_nil)))) ?_
    refine blk_cons (ps_set (i := 7) sc_Mixer_learn.nd rfl (Or.inr rfl) (pe_callB (call_max2 rfl) rfl T.z_max (by decide +kernel) (pa_cons (pe_op op_sub (pe_bm0 PySem.F.plainAttrs_int PySem.F.slot_int_bit_length PySem.F.type_int_bit_length mt_bits (pe_callB (call_sum rfl) rfl T.z_sum (by decide +kernel) (pa_cons (pv 6) pa_nil (star_ok rfl)))) (pe_gint rfl T.c_MOST_FIGURES)) (pa_cons pe_int pa_nil (star_ok rfl)) (star_ok rfl)))) ?_
    refine ⟨_, (pss_one (ps_fld (pv 0) (pe_compF (js := [7]) (ys := ["dropped"]) rfl (pi_list (pv 6)) (fun C s2 H2 fp => (pe_op op_shr (pv 0) (pv 1))) rfl rfl (hyc := (all_cons rfl all_nil)) (hrel := (all_cons rfl all_nil))) rfl)), ?_⟩
    try dsimp only [cxOf]
    refine i_start (σ' := [some _, some _, some _, none, none, none, none, none]) rfl ?_
    have hlen : cs.length = ws.length := by rw [hw.len, hc.len]
    walk_at "rd"
    refine ⟨x, m, rfl, ty, fun hx => ?_, k2⟩
    obtain ⟨b, rfl, b0, b1⟩ := of_bit hx
    have k := k1 b rfl b0 b1
    walk_at "rd"
    refine ⟨l, c, rfl, ⟨_, _, SqL.of hl, hq⟩, fun D hD => ?_⟩
    refine compT_zipM (fun i => V.int ((ws[i]?).getD 0 * giv ((cs[i]?).getD 0) b)) (SqL.of hl) hq (by rw [List.length_map, List.length_map, hlen]) hD (fun i x y H2 tt pre hx hy S2 hD2 htt hpre => ?_) (fun H2 S2 hD2 => ?_)
    · obtain ⟨v1, v2, rfl⟩ := two_of hpre
      obtain ⟨w, rfl, wm, wi, il⟩ := getInt hx
      obtain ⟨u, rfl, um, ui, _⟩ := getInt hy
      have w1 := hw.one w wm
      have w2 := hw.top w wm
      have hcu := chV_of (cok_ch hc um)
      have hbu := bitV_of b0 b1
      have S3 := S2.trans (same_upd (o := HO.tup [V.int w, V.int u]) htt)
      have hD3 := upd_new (o' := HO.tup [V.int w, V.int u]) htt hD2
      have ht3 : upd H2 tt (HO.tup [V.int w, V.int u]) tt = some (.tup [V.int w, V.int u]) := upd_same
      generalize upd H2 tt (HO.tup [V.int w, V.int u]) = H3 at S3 hD3 ht3
      refine i_gTup (SqT.of ht3) rfl ?_
      show gCons (gName 0) (gCons (gName 1) gNil) [V.int w, V.int u] (v1 :: v2 :: takeS [2] [some (V.ref p), some (V.ref c), some (V.int b), none, none, none, none, none]) H3 _
      walk_at "rd"
      refine ⟨⟨[some (.int w), some (.int u)], rfl, rfl⟩, ?_⟩
      walk_at "rd"
      refine ⟨.int u, _, .int b, _, rfl, .int u, .int b, fun z => (by rw [hcu] at z; cases z), fun _ z => (by rw [hbu] at z; cases z), fun c' b' ec eb _ _ => ?_⟩
      cases ec
      cases eb
      walk_at "rd"
      refine Mp.doneR hD (line_lt (by rw [List.length_map, hw.len]; omega)) (by rw [List.length_map]; exact il) S3 hD3 ?_
      rw [wi, ui]
      rfl
    · have hD2 : H2 D = some (.lst ((shL ws cs b).map V.int)) := some_lst hD2 (zrange (g := fun w c => w * giv c b) hlen)
      have shl : (shL ws cs b).length = n := by rw [shL_len hlen.symm, hw.len]
      have hp2 := S2 _ _ hp
      have ek : lrn ws cs b = (grL (shL ws cs b)).map fun v => v / 2 ^ tOf (grL (shL ws cs b)).sum := rfl
      rw [ek] at k
      generalize shL ws cs b = sh at hD2 shl k
      have eg : grL sh = sh.map fun s => 31 * (n : Int) * s + sh.sum := by rw [← shl]; rfl
      walk_at "rd"
      refine ⟨D, _, rfl, SqL.of hD2, ?_⟩
      walk_at "rd"
      refine i_len (SqL.of hD2) ?_
      rw [List.length_map, shl]
      walk_at "rd"
      refine ⟨D, rfl, ⟨_, SqL.of hD2⟩, fun G hG => ?_⟩
      refine compF_listM (onI fun s => 31 * (n : Int) * s + sh.sum) (SqL.of hD2) hG (fun i y H3 hy S3 hG3 => ?_) (fun H3 S3 hG3 => ?_)
      · obtain ⟨s', rfl, _, _, il⟩ := getInt hy
        show tOp _ _ _ (some (V.int s') :: takeS [4, 5] [some (V.ref p), some (V.ref c), some (V.int b), some (V.ref D), some (V.int sh.sum), some (V.int (31 * (n : Int))), none, none]) H3 _
        walk_at "rd"
        exact Mp.done hG (line_lt (by rw [List.length_map, shl]; omega)) hy S3 hG3 rfl
      · rw [onI_map, ← eg] at hG3
        have grl : (grL sh).length = n := by rw [grL_len, shl]
        generalize grL sh = gr at hG3 k grl
        have hp3 := S3 _ _ hp2
        walk_at "rd"
        refine ⟨G, _, rfl, SqL.of hG3, ?_⟩
        walk_at "rd"
        refine ⟨_, _, rfl, ?_⟩
        have et : (if (0 : Int) > ((Builtin.Int.intBits gr.sum : Nat) : Int) - 48 then (0 : Int) else ((Builtin.Int.intBits gr.sum : Nat) : Int) - 48) = ((tOf gr.sum : Nat) : Int) := by
          show _ = (((bitsN gr.sum) - 48 : Nat) : Int)
          have e : Builtin.Int.intBits gr.sum = bitsN gr.sum := rfl
          rw [e]
          split <;> omega
        rw [et]
        generalize tOf gr.sum = t at k
        walk_at "rd"
        refine ⟨G, rfl, ⟨_, SqL.of hG3⟩, fun Z hZ => ?_⟩
        refine compF_listM (onI fun v => v / 2 ^ t) (SqL.of hG3) hZ (fun i y H4 hy S4 hZ4 => ?_) (fun H4 S4 hZ4 => ?_)
        · obtain ⟨s', rfl, _, _, il⟩ := getInt hy
          show tOp _ _ _ (some (V.int s') :: takeS [7] [some (V.ref p), some (V.ref c), some (V.int b), some (V.ref D), some (V.int sh.sum), some (V.int (31 * (n : Int))), some (V.ref G), some (V.int (t : Int))]) H4 _
          walk_at "rd"
          refine i_I (Int.natCast_nonneg t) ?_
          exact Mp.done hZ (line_lt (by rw [List.length_map, grl]; omega)) hy S4 hZ4 rfl
        · rw [onI_map] at hZ4
          have hp4 := S4 _ _ hp3
          walk_at "rd"
          have nz : Z ≠ p := fun z => by rw [z, hp3] at hZ; cases hZ
          have S24 := S2.trans (S3.trans S4)
          exact k Z _ ((S2.trans S3).free hZ) ⟨upd_same, upd_oth nz hZ4⟩ ((But.of S24).trans But.upd)
--%% Foreteller_arrive
theorem sc_Foreteller_arrive : FnScope ["self"] ["self"] (defScope s_Foreteller_arrive) := scMk (by decide +kernel)
theorem BkAt.sqt {K : PySem.W.Frag} {a : Ads} {H H' : Hp} {p dx lk d : Addr} {kd : Fin 3} {f : List Int → Option Slt} {O : Addr → Prop} {m : Nat} (h : BkAt a H p dx lk d kd f O m) (B : ButO O H H') {t : Addr} {xs : List V} (e : SqT K H t xs) : SqT K H' t xs := by
  have no : ∀ o : HO, H t = some o → isOb o = false → H' t = some o := fun o ho hi => B _ _ ho fun z => by
    obtain ⟨o', ho', hi'⟩ := h.own t z
    rw [ho] at ho'
    cases ho'
    rw [hi] at hi'
    cases hi'
  rcases e with (e | ⟨o, e⟩) | e
  · exact .inl (.inl (no _ e rfl))
  · exact .inl (.inr ⟨o, no _ e rfl⟩)
  · exact .inr e
theorem BkAt.up {a : Ads} {H : Hp} {p dx lk d : Addr} {kd : Fin 3} {f : List Int → Option Slt} {O : Addr → Prop} {m m' : Nat} (h : BkAt a H p dx lk d kd f O m) (hm : m ≤ m') : BkAt a H p dx lk d kd f O m' := by
  obtain ⟨kvs, loc, h1, h2, h3⟩ := h.tb
  exact ⟨h.me, h.own, h.np, h.dO, h.ky, kvs, loc, h1, Nat.le_trans h2 hm, h3⟩
theorem LookAt.mvT {K : PySem.W.Frag} {H H' : Hp} {k : Addr} {x : V} {ps : List Int} (h : LookAt K H k x ps) (h1 : ∀ t xs, SqT K H t xs → SqT K H' t xs) : LookAt K H' k x ps := by
  obtain ⟨t, q1, q2, q3, q4⟩ := h
  exact ⟨t, h1 _ _ q1, h1 _ _ q2, q3, q4⟩
def refs (g : Nat → Addr) (n : Nat) : List V := (List.range n).map fun i => V.ref (g i)
theorem refs_len (g : Nat → Addr) (n : Nat) : (refs g n).length = n := by unfold refs; rw [List.length_map, List.length_range]
theorem refs_get {g : Nat → Addr} {n i : Nat} {x : V} (h : (refs g n)[i]? = some x) : x = .ref (g i) ∧ i < n := by
  have hi : i < n := by
    have := (List.getElem?_eq_some_iff.mp h).1
    rw [refs_len] at this
    exact this
  unfold refs at h
  rw [List.getElem?_map, List.getElem?_range hi] at h
  exact ⟨(Option.some.inj h).symm, hi⟩
theorem refs_snoc (g : Nat → Addr) (n : Nat) : refs g (n + 1) = refs g n ++ [.ref (g n)] := by
  unfold refs
  rw [List.range_succ, List.map_append]
  rfl
theorem refs_congr {g h : Nat → Addr} {n : Nat} (e : ∀ i, i < n → g i = h i) : refs g n = refs h n := by
  unfold refs
  exact List.map_congr_left fun i hi => by rw [e i (List.mem_range.mp hi)]
/-- a row of books, each with slots of its own -/
structure Bks (K : PySem.W.Frag) (a : Ads) (H : Hp) (n : Nat) (bk dx lk dd : Nat → Addr) (kd : Nat → Fin 3) (ps : Nat → List Int) (f : Nat → List Int → Option Slt) (O : Nat → Addr → Prop) (m : Nat) : Prop where
  look : ∀ i, i < n → LookAt K H (lk i) (.str (kdS (kd i))) (ps i)
  b : ∀ i, i < n → BkAt a H (bk i) (dx i) (lk i) (dd i) (kd i) (f i) (O i) m
  dj : ∀ i j c, i < n → j < n → i ≠ j → O i c → ¬ O j c
  nb : ∀ i j, i < n → j < n → ¬ O i (bk j)
/-- the slot of a context -/
def AtS (H : Hp) (d : Addr) (k : List Int) (q : Addr) : Prop := ∀ kvs, H d = some (.dT kvs) → valV kvs (kI k) = some (.ref q)
theorem BkAt.slot {a : Ads} {H : Hp} {p dx lk d q : Addr} {kd : Fin 3} {f : List Int → Option Slt} {O : Addr → Prop} {m : Nat} {k : List Int} {s : Slt} (h : BkAt a H p dx lk d kd f O m) (hf : f k = some s) (hq : AtS H d k q) : ∃ dq, H q = some (oS a dq s) ∧ s.ok ∧ s.kind = kd ∧ O q := by
  obtain ⟨kvs, loc, h1, h2, h3, h4, h5⟩ := h.tb
  obtain ⟨q1, q2, q3, q4, q5⟩ := h4 k s hf
  have e := hq kvs h1
  rw [q1] at e
  injection e with e
  injection e with e
  subst e
  exact ⟨_, q2, q3, q4, q5⟩
/-- the slot of a context was told a bit -/
theorem BkAt.told {a : Ads} {H H' : Hp} {p dx lk d q dq : Addr} {kd : Fin 3} {f : List Int → Option Slt} {O : Addr → Prop} {m : Nat} {k : List Int} {s : Slt} {b : Int} (h : BkAt a H p dx lk d kd f O m) (hf : f k = some s) (hq : AtS H d k q) (b0 : 0 ≤ b) (b1 : b ≤ 1)
    (h3 : H' q = some (oS a dq (s.see b))) (B : But q H H') : BkAt a H' p dx lk d kd (updF f k (s.see b)) O m := by
  have hme := h.me
  obtain ⟨kvs, loc, h1, h2, h3', h4, h5⟩ := id h.tb
  obtain ⟨q1, q2, q3, q4, q5⟩ := h4 k s hf
  have e := hq kvs h1
  rw [q1] at e
  injection e with e
  injection e with e
  have npl : p ≠ q := fun z => h.np (by rw [z, ← e]; exact q5)
  have ndl : d ≠ q := fun z => by
    obtain ⟨C, fs, eo⟩ := oS_ins a (loc k).2 s
    rw [e, ← z, h1, eo] at q2
    cases q2
  refine ⟨B _ _ hme npl, fun c hc => ?_, h.np, h.dO, h.ky.mv h1 (B _ _ h1 ndl), kvs, fun j => if j = k then (q, dq) else loc j, B _ _ h1 ndl, h2, fun j hj => ?_, fun j s' hj => ?_, fun j1 j2 s1 s2 e1 e2 el => ?_⟩
  · obtain ⟨o, ho, hi⟩ := h.own c hc
    by_cases z : c = q
    · rw [z]
      obtain ⟨C, fs, eo⟩ := oS_ins a dq (s.see b)
      exact ⟨_, h3, by rw [eo]; rfl⟩
    · exact ⟨o, B _ _ ho z, hi⟩
  · refine h3' j ?_
    unfold updF at hj
    split at hj
    · cases hj
    · exact hj
  · unfold updF at hj
    by_cases z : j = k
    · rw [if_pos z] at hj
      cases hj
      subst z
      dsimp only
      rw [if_pos rfl]
      exact ⟨by rw [q1, e], h3, Slt.see_ok q3 b0 b1, (kind_see s b).trans q4, e ▸ q5⟩
    · rw [if_neg z] at hj
      obtain ⟨p1, p2, p3, p4, p5⟩ := h4 j s' hj
      dsimp only
      rw [if_neg z]
      exact ⟨p1, B _ _ p2 (fun w => z (h5 j k s' s hj hf (w.trans e.symm))), p3, p4, p5⟩
  · have some_of : ∀ j s', updF f k (s.see b) j = some s' → ∃ t, f j = some t := fun j s' h => by
      unfold updF at h
      by_cases z : j = k
      · exact ⟨s, by rw [z]; exact hf⟩
      · rw [if_neg z] at h
        exact ⟨s', h⟩
    obtain ⟨t1, f1⟩ := some_of j1 s1 e1
    obtain ⟨t2, f2⟩ := some_of j2 s2 e2
    refine h5 j1 j2 t1 t2 f1 f2 ?_
    have back : ∀ j, (if j = k then ((q, dq) : Addr × Addr) else loc j).1 = (loc j).1 := fun j => by
      by_cases z : j = k
      · rw [if_pos z, z]
        exact e.symm
      · rw [if_neg z]
    rw [← back j1, ← back j2]
    exact el
theorem AtS.told {a : Ads} {H H' : Hp} {p dx lk d q : Addr} {kd : Fin 3} {f : List Int → Option Slt} {O : Addr → Prop} {m : Nat} {k : List Int} (h : BkAt a H p dx lk d kd f O m) {r : Addr} (hd : d ≠ r) (B : But r H H') (hq : AtS H d k q) : AtS H' d k q := fun kvs e => by
  obtain ⟨kvs0, loc, h1, _⟩ := h.tb
  rw [B _ _ h1 hd] at e
  cases e
  exact hq _ h1
section
variable {K : PySem.W.Frag} {a : Ads} {H H' : Hp} {n m : Nat} {bk dx lk dd : Nat → Addr} {kd : Nat → Fin 3} {ps : Nat → List Int} {f : Nat → List Int → Option Slt} {O : Nat → Addr → Prop}
theorem Bks.frame (h : Bks K a H n bk dx lk dd kd ps f O m) {O2 : Addr → Prop} (B : ButO O2 H H') (dj : ∀ i b, i < n → O i b → ¬ O2 b) (hp : ∀ i, i < n → ¬ O2 (bk i)) (ht : ∀ t xs, SqT K H t xs → SqT K H' t xs) : Bks K a H' n bk dx lk dd kd ps f O m :=
  ⟨fun i hi => (h.look i hi).mvT ht, fun i hi => (h.b i hi).frame B (fun b hb => dj i b hi hb) (hp i hi), h.dj, h.nb⟩
theorem Bks.same (h : Bks K a H n bk dx lk dd kd ps f O m) (S : Same H H') : Bks K a H' n bk dx lk dd kd ps f O m :=
  h.frame (O2 := fun _ => False) (fun b o e _ => S b o e) (fun _ _ _ _ z => z) (fun _ _ z => z) fun _ _ e => S.tup e
/-- book j has changed -/
theorem Bks.move (h : Bks K a H n bk dx lk dd kd ps f O m) {j m' : Nat} (hj : j < n) {f' : List Int → Option Slt} {O' : Addr → Prop} (hm : m ≤ m') (hb : BkAt a H' (bk j) (dx j) (lk j) (dd j) (kd j) f' O' m') (hO : ∀ c, O' c → O j c ∨ H c = none) (B : ButO (O j) H H') :
    Bks K a H' n bk dx lk dd kd ps (fun i => if i = j then f' else f i) (fun i => if i = j then O' else O i) m' := by
  have hbj := h.b j hj
  have live : ∀ q c, q < n → q ≠ j → O q c → ¬ O' c := fun q c hq hqj w w' => by
    rcases hO c w' with v | v
    · exact h.dj q j c hq hj hqj w v
    · obtain ⟨o, ho, _⟩ := (h.b q hq).own c w
      rw [v] at ho
      cases ho
  refine ⟨fun i hi => (h.look i hi).mvT fun t xs e => hbj.sqt B e, fun i hi => ?_, fun i l c hi hl hil e1 e2 => ?_, fun i l hi hl e => ?_⟩
  · try dsimp only
    by_cases z : i = j
    · subst z
      rw [if_pos rfl, if_pos rfl]
      exact hb
    · rw [if_neg z, if_neg z]
      exact ((h.b i hi).frame B (fun b hb' => h.dj i j b hi hj z hb') (h.nb j i hj hi)).up hm
  · try dsimp only at e1 e2
    by_cases z1 : i = j
    · rw [if_pos z1] at e1
      have z2 : l ≠ j := fun w => hil (z1.trans w.symm)
      rw [if_neg z2] at e2
      exact live l c hl z2 e2 e1
    · rw [if_neg z1] at e1
      by_cases z2 : l = j
      · rw [if_pos z2] at e2
        exact live i c hi z1 e1 e2
      · rw [if_neg z2] at e2
        exact h.dj i l c hi hl hil e1 e2
  · try dsimp only at e
    by_cases z : i = j
    · rw [if_pos z] at e
      rcases hO _ e with v | v
      · exact h.nb j l hj hl v
      · rw [(h.b l hl).me] at v
        cases v
    · rw [if_neg z] at e
      exact h.nb i l hi hl e
theorem AtS.move (h : Bks K a H n bk dx lk dd kd ps f O m) {i j : Nat} (hi : i < n) (hj : j < n) (hij : i ≠ j) (B : ButO (O j) H H') {k : List Int} {q : Addr} (hq : AtS H (dd i) k q) : AtS H' (dd i) k q := fun kvs e => by
  obtain ⟨kvs0, loc, h1, _⟩ := (h.b i hi).tb
  rw [B _ _ h1 (h.dj i j _ hi hj hij (h.b i hi).dO)] at e
  cases e
  exact hq _ h1
theorem Bks.nlst (h : Bks K a H n bk dx lk dd kd ps f O m) {l : Addr} {xs : List V} (hl : H l = some (.lst xs)) : ∀ i, i < n → ¬ O i l := fun i hi z => by
  obtain ⟨o, ho, hi'⟩ := (h.b i hi).own l z
  rw [hl] at ho
  cases ho
  cases hi'
end
/-- what the slots hold, whether or not they are there yet -/
def AgrG (n : Nat) (kd : Nat → Fin 3) (f : Nat → List Int → Option Slt) (g : Nat → List Int → Slt) : Prop := ∀ i, i < n → ∀ k, (f i k).getD (kd0 (kd i)) = g i k
theorem AgrG.put {n : Nat} {kd : Nat → Fin 3} {f : Nat → List Int → Option Slt} {g : Nat → List Int → Slt} (h : AgrG n kd f g) (j : Nat) (hj : j < n) (k : List Int) : AgrG n kd (fun i => if i = j then updF (f j) k ((f j k).getD (kd0 (kd j))) else f i) g := fun i hi k' => by
  dsimp only
  by_cases z : i = j
  · subst z
    rw [if_pos rfl]
    unfold updF
    by_cases w : k' = k
    · rw [if_pos w, w]
      exact h i hi k
    · rw [if_neg w]
      exact h i hi k'
  · rw [if_neg z]
    exact h i hi k'
def sp_farrive (K : PySem.W.Frag) (a : Ads) : Sp := fun vs H Q _ => ∃ (p dp ll bl mp el pl0 : Addr) (nd : Int) (sg : List Int) (n m : Nat) (bk dx lk dd : Nat → Addr) (kd : Nat → Fin 3) (ps : Nat → List Int) (f : Nat → List Int → Option Slt) (O : Nat → Addr → Prop) (g : Nat → List Int → Slt), vs = [.ref p] ∧
  H p = some (.ins a.C_Foreteller dp (F_Foreteller (.ref ll) (.ref bl) (.ref mp) (.ref el) (.int nd) (.ref pl0))) ∧ H bl = some (.lst (refs bk n)) ∧ H el = some (.lst (sg.map V.int)) ∧ Bks K a H n bk dx lk dd kd ps f O m ∧ AgrG n kd f g ∧ n ≤ 6 ∧ m + 10 < 1000000 ∧ (∀ i, i < n → ¬ O i p) ∧
  ∀ (pl : Addr) (sl : Nat → Addr) (f' : Nat → List Int → Option Slt) (O' : Nat → Addr → Prop) (H' : Hp), H' p = some (.ins a.C_Foreteller dp (F_Foreteller (.ref ll) (.ref bl) (.ref mp) (.ref el) (.int nd) (.ref pl))) → H' pl = some (.lst (refs sl n)) → H pl = none →
    Bks K a H' n bk dx lk dd kd ps f' O' (m + n) → AgrG n kd f' g → (∀ j, j < n → (∃ s, f' j (ctx (ps j) sg nd) = some s) ∧ AtS H' (dd j) (ctx (ps j) sg nd) (sl j)) → (∀ j c, j < n → O' j c → O j c ∨ H c = none) →
    (∀ c o, H c = some o → c ≠ p → (∀ j, j < n → ¬ O j c) → H' c = some o) → (∀ c o, H c = some o → ∃ o', H' c = some o') → Q .non H'
theorem ok_Foreteller_arrive (T : Txt K mg a) : FnOk P w K mg base CX0 5 a.f_Foreteller_arrive a.d_Foreteller_arrive ["self"] (sp_farrive K a) := by
  refine T.y_Foreteller_arrive.F.ok sc_Foreteller_arrive (fun vs H Q E h => ?_) (fun cdv A outer s H vs Q E hr h => ?_)
  · obtain ⟨p, dp, ll, bl, mp, el, pl0, nd, sg, n, m, bk, dx, lk, dd, kd, ps, f, O, g, rfl, _⟩ := h
    rfl
  · obtain ⟨p, dp, ll, bl, mp, el, pl0, nd, sg, n, m, bk, dx, lk, dd, kd, ps, f, O, g, rfl, hp, hbl, hel, hB, hA, n6, hm, np, k⟩ := h
    refine ⟨_, (pss_one (ps_fld (pv 0) (pe_compF (js := [0]) (ys := ["self"]) rfl (pi_list (pe_fld (pv 0) rfl)) (fun C s2 H2 fp => (pe_meth (pv 0) T.cl_Book T.y_Book_slot_at.m (ok_Book_slot_at T) (hr.mono (by decide)) T.y_Book_slot_at.B .nil pass0 (pa_cons (pe_fldK (K := K) rfl (pv 1) rfl) (pa_cons (pe_fldK (K := K) rfl (pv 1) rfl) pa_nil (star_ok rfl)) (star_ok rfl)))) rfl rfl (hyc := (all_cons rfl all_nil)) (hrel := (all_cons rfl all_nil))) rfl)), ?_⟩
    try dsimp only [cxOf]
    refine i_start (σ' := [some _]) rfl ?_
    walk_at "rd"
    refine ⟨bl, rfl, ⟨_, SqL.of hbl⟩, fun D hD => ?_⟩
    have nbl := hB.nlst hbl
    have nel := hB.nlst hel
    refine compF_list (K := K) (xs := refs bk n) (fun i G => ∃ (sl : Nat → Addr) (f' : Nat → List Int → Option Slt) (O' : Nat → Addr → Prop), G D = some (.lst (refs sl i)) ∧ Bks K a G n bk dx lk dd kd ps f' O' (m + i) ∧ AgrG n kd f' g ∧ (∀ j, j < i → (∃ s, f' j (ctx (ps j) sg nd) = some s) ∧ AtS G (dd j) (ctx (ps j) sg nd) (sl j)) ∧
      (∀ j c, j < n → O' j c → O j c ∨ H c = none) ∧ (∀ c o, H c = some o → (∀ j, j < n → ¬ O j c) → G c = some o) ∧ (∀ c o, H c = some o → ∃ o', G c = some o'))
      ⟨fun _ => 0, f, O, upd_same, hB.same (same_upd hD), hA, fun j hj => absurd hj (Nat.not_lt_zero j), fun j c _ z => .inl z, fun c o e _ => upd_new hD e, fun c o e => ⟨o, upd_new hD e⟩⟩ (fun i G _ z => ?_) (fun i x G hx hi z => ?_) (fun G z => ?_)
    · obtain ⟨_, _, _, _, _, _, _, _, w, _⟩ := z
      exact SqL.of (w _ _ hbl nbl)
    · obtain ⟨sl, f', O', gD, gB, gA, gS, gO, gF, gL⟩ := z
      obtain ⟨rfl, hin⟩ := refs_get hx
      have hpG := gF _ _ hp np
      have helG := gF _ _ hel nel
      have hme := (gB.b i hin).me
      show tMeth _ _ _ _ _ _ _ (some (V.ref (bk i)) :: takeS [0] [some (V.ref p)]) G _
      walk_at "rd"
      refine ⟨bk i, dx i, lk i, dd i, el, kd i, f' i, O' i, m + i, ps i, sg, nd, rfl, gB.b i hin, by omega, gB.look i hin, SqL.of helG, fun q O2 G2 hb2 hv hO2 hM2 B2 => ?_⟩
      have nD := gB.nlst gD
      have gD2 : G2 D = some (.lst (refs sl i)) := B2 _ _ gD (nD i hin)
      refine comp_next (n := (refs bk n).length) gD2 (line_lt (by rw [refs_len]; omega)) hi ?_
      have M2 := gB.move hin (Nat.le_succ (m + i)) hb2 hO2 B2
      have nD2 := M2.nlst gD2
      have SB : ∀ c o, G2 c = some o → c ≠ D → upd G2 D (.lst (refs sl i ++ [V.ref q])) c = some o := fun c o e ne => upd_oth ne e
      have M3 := M2.frame (O2 := fun c => c = D) (fun c o e ne => SB c o e ne) (fun j c hj w z => nD2 j hj (z ▸ w)) (fun j hj z => by
        have := (M2.b j hj).me
        rw [z, gD2] at this
        cases this) (fun t xs e => by
        rcases e with (e | ⟨o, e⟩) | e
        · exact .inl (.inl (SB _ _ e (fun z => by rw [z, gD2] at e; cases e)))
        · exact .inl (.inr ⟨o, SB _ _ e (fun z => by rw [z, gD2] at e; cases e)⟩)
        · exact .inr e)
      have up : ∀ j, j < n → AtS G2 (dd j) (ctx (ps j) sg nd) (if j = i then q else sl j) → AtS (upd G2 D (.lst (refs sl i ++ [V.ref q]))) (dd j) (ctx (ps j) sg nd) (if j = i then q else sl j) := fun j hj h =>
        h.told (M2.b j hj) (fun z => nD2 j hj (by rw [← z]; exact (M2.b j hj).dO)) (fun c o e ne => SB c o e ne)
      refine ⟨fun j => if j = i then q else sl j, _, _, ?_, M3, gA.put i hin _, fun j hj => ?_, fun j c hj w => ?_, fun c o e no => ?_, fun c o e => ?_⟩
      · rw [upd_same, refs_snoc, if_pos rfl]
        congr 3
        exact refs_congr fun j hj => (if_neg (by omega)).symm
      · by_cases z : j = i
        · subst z
          refine ⟨⟨(f' j (ctx (ps j) sg nd)).getD (kd0 (kd j)), ?_⟩, up j hin ?_⟩
          · try dsimp only
            rw [if_pos rfl]
            unfold updF
            rw [if_pos rfl]
          · rw [if_pos rfl]
            exact hv
        · have hjn : j < n := by omega
          obtain ⟨⟨s', hs'⟩, hat⟩ := gS j (by omega)
          refine ⟨⟨s', ?_⟩, up j hjn ?_⟩
          · try dsimp only
            rw [if_neg z]
            exact hs'
          · rw [if_neg z]
            exact hat.move gB hjn hin z B2
      · try dsimp only at w
        by_cases z : j = i
        · subst z
          rw [if_pos rfl] at w
          rcases hO2 c w with v | v
          · exact gO j c hj v
          · refine .inr ?_
            cases e : H c with
            | none => rfl
            | some o =>
              obtain ⟨o', w'⟩ := gL c o e
              rw [w'] at v
              cases v
        · rw [if_neg z] at w
          exact gO j c hj w
      · have hG := gF c o e no
        have nc : ¬ O' i c := fun w => by
          rcases gO i c hin w with v | v
          · exact no i hin v
          · rw [e] at v
            cases v
        refine SB _ _ (B2 _ _ hG nc) (fun z => ?_)
        rw [z, hD] at e
        cases e
      · obtain ⟨o1, w1⟩ := gL c o e
        have ncD : c ≠ D := fun z => by rw [z, hD] at e; cases e
        by_cases w2 : O' i c
        · obtain ⟨o2, ho2, _⟩ := hb2.own c (hM2 c w2)
          exact ⟨o2, SB _ _ ho2 ncD⟩
        · exact ⟨o1, SB _ _ (B2 _ _ w1 w2) ncD⟩
    · obtain ⟨sl, f', O', gD, gB, gA, gS, gO, gF, gL⟩ := z
      rw [refs_len] at gD gB gS
      have hpG := gF _ _ hp np
      walk_at "rd"
      have nDp : D ≠ p := fun z => by rw [z, hp] at hD; cases hD
      have BP : But p G (upd G p (.ins a.C_Foreteller dp (F_Foreteller (.ref ll) (.ref bl) (.ref mp) (.ref el) (.int nd) (.ref D)))) := But.upd
      have np' : ∀ i, i < n → ¬ O' i p := fun i hi w => by
        rcases gO i p hi w with v | v
        · exact np i hi v
        · rw [hp] at v; cases v
      have M3 := gB.frame (O2 := fun c => c = p) (fun c o e ne => BP c o e ne) (fun j c hj w z => np' j hj (z ▸ w)) (fun j hj z => by
        have := (gB.b j hj).me
        rw [z, hpG] at this
        injection this with this
        injection this with _ _ e
        exact absurd (congrArg List.length e) (show ¬ (6 = 2) by decide)) (fun t xs e => by
        rcases e with (e | ⟨o, e⟩) | e
        · exact .inl (.inl (BP _ _ e (fun z => by rw [z, hpG] at e; cases e)))
        · exact .inl (.inr ⟨o, BP _ _ e (fun z => by rw [z, hpG] at e; cases e)⟩)
        · exact .inr e)
      refine k D sl f' O' _ upd_same (upd_oth nDp gD) hD M3 gA (fun j hj => ⟨(gS j hj).1, (gS j hj).2.told (gB.b j hj) (fun z => np' j hj (by rw [← z]; exact (gB.b j hj).dO)) BP⟩) gO (fun c o e nc no => BP _ _ (gF c o e no) nc) fun c o e => ?_
      by_cases zc : c = p
      · rw [zc]
        exact ⟨_, upd_same⟩
      · obtain ⟨o1, w1⟩ := gL c o e
        exact ⟨o1, BP _ _ w1 zc⟩
--%% Foreteller___init__
/-- where all of a foreteller lies -/
structure FA where
  dp : Addr
  ll : Addr
  bl : Addr
  mp : Addr
  mx : Addr
  ml : Addr
  el : Addr
  pl : Addr
  n : Nat
  bk : Nat → Addr
  dx : Nat → Addr
  lk : Nat → Addr
  dd : Nat → Addr
  sl : Nat → Addr
  kd : Nat → Fin 3
  ps : Nat → List Int
/-- what it has learned, and where it is -/
structure FX where
  g : Nat → List Int → Slt
  ws : List Int
  sg : List Int
  nd : Int
def FX.key (X : FX) (A : FA) (i : Nat) : List Int := ctx (A.ps i) X.sg X.nd
def FX.cs (X : FX) (A : FA) : List Int := (List.range A.n).map fun i => (X.g i (X.key A i)).due
def ndN (nd b : Int) : Int := if 0 < nd then (if 256 ≤ 2 * nd + b then 0 else 2 * nd + b) else if b = 1 then 1 else nd
def sgN (sg : List Int) (nd b : Int) : List Int := if 0 < nd then (if 256 ≤ 2 * nd + b then sg ++ [2 * nd + b - 256] else sg) else if b = 1 then sg else []
def FX.see (X : FX) (A : FA) (b : Int) : FX := { g := fun i k => if k = X.key A i then (X.g i k).see b else X.g i k, ws := lrn X.ws (X.cs A) b, sg := sgN X.sg X.nd b, nd := ndN X.nd b }
structure FtAt (K : PySem.W.Frag) (a : Ads) (H : Hp) (p : Addr) (A : FA) (X : FX) (f : Nat → List Int → Option Slt) (O : Nat → Addr → Prop) (m : Nat) : Prop where
  me : H p = some (.ins a.C_Foreteller A.dp (F_Foreteller (.ref A.ll) (.ref A.bl) (.ref A.mp) (.ref A.el) (.int X.nd) (.ref A.pl)))
  bl : H A.bl = some (.lst (refs A.bk A.n))
  el : H A.el = some (.lst (X.sg.map V.int))
  mx : MxAt a A.mp A.mx A.ml X.ws H
  wok : WOk A.n X.ws
  pl : H A.pl = some (.lst (refs A.sl A.n))
  B : Bks K a H A.n A.bk A.dx A.lk A.dd A.kd A.ps f O m
  ag : AgrG A.n A.kd f X.g
  at' : ∀ j, j < A.n → (∃ s, f j (X.key A j) = some s) ∧ AtS H (A.dd j) (X.key A j) (A.sl j)
  np : ∀ i, i < A.n → ¬ O i p
  nm : ∀ i, i < A.n → ¬ O i A.mp
  n1 : 1 ≤ A.n
  n6 : A.n ≤ 6
theorem FtAt.same {K : PySem.W.Frag} {a : Ads} {H H' : Hp} {p : Addr} {A : FA} {X : FX} {f : Nat → List Int → Option Slt} {O : Nat → Addr → Prop} {m : Nat} (h : FtAt K a H p A X f O m) (S : Same H H') : FtAt K a H' p A X f O m :=
  ⟨S _ _ h.me, S _ _ h.bl, S _ _ h.el, h.mx.same S, h.wok, S _ _ h.pl, h.B.same S, h.ag, fun j hj => ⟨(h.at' j hj).1, fun kvs e => by
    obtain ⟨kvs0, loc, h1, _⟩ := (h.B.b j hj).tb
    rw [S _ _ h1] at e
    cases e
    exact (h.at' j hj).2 _ h1⟩, h.np, h.nm, h.n1, h.n6⟩
theorem FtAt.slot {K : PySem.W.Frag} {a : Ads} {H : Hp} {p : Addr} {A : FA} {X : FX} {f : Nat → List Int → Option Slt} {O : Nat → Addr → Prop} {m : Nat} (h : FtAt K a H p A X f O m) {j : Nat} (hj : j < A.n) :
    f j (X.key A j) = some (X.g j (X.key A j)) ∧ (∃ dq, H (A.sl j) = some (oS a dq (X.g j (X.key A j)))) ∧ (X.g j (X.key A j)).ok ∧ O j (A.sl j) := by
  obtain ⟨⟨s, hs⟩, hat⟩ := h.at' j hj
  have e := h.ag j hj (X.key A j)
  rw [hs] at e
  have e : s = X.g j (X.key A j) := e
  rw [← e]
  obtain ⟨dq, h1, h2, h3, h4⟩ := (h.B.b j hj).slot hs hat
  exact ⟨hs, ⟨dq, h1⟩, h2, h4⟩
theorem FtAt.cok {K : PySem.W.Frag} {a : Ads} {H : Hp} {p : Addr} {A : FA} {X : FX} {f : Nat → List Int → Option Slt} {O : Nat → Addr → Prop} {m : Nat} (h : FtAt K a H p A X f O m) : COk A.n (X.cs A) := by
  refine ⟨by unfold FX.cs; rw [List.length_map, List.length_range], fun c hc => ?_, fun c hc => ?_⟩
  · obtain ⟨j, hj, rfl⟩ := List.mem_map.mp hc
    exact (due_ok (h.slot (List.mem_range.mp hj)).2.2.1).1
  · obtain ⟨j, hj, rfl⟩ := List.mem_map.mp hc
    exact (due_ok (h.slot (List.mem_range.mp hj)).2.2.1).2
theorem LkG.at' {K : PySem.W.Frag} {H : Hp} {lk tp : Addr} {kd : Fin 3} {ps : List Int} (h : LkG H (.ref lk) kd tp ps) : LookAt K H lk (.str (kdS kd)) ps := by
  obtain ⟨lk', e, h1, h2, h3⟩ := h
  cases e
  have h3 := h3
  unfold placesV at h3
  rw [Bool.and_eq_true, Bool.and_eq_true, List.all_eq_true] at h3
  refine ⟨tp, SqT.of h1, SqT.of h2, fun p hp => ?_, by have := of_decide_eq_true h3.1.1; rw [List.length_map] at this; exact this⟩
  have w := h3.1.2 (.int p) (List.mem_map.mpr ⟨p, hp, rfl⟩)
  have w : (decide (1 ≤ p) && decide (p ≤ 8)) = true := w
  rw [Bool.and_eq_true] at w
  exact ⟨of_decide_eq_true w.1, of_decide_eq_true w.2⟩
/-- one book more -/
theorem Bks.snoc {K : PySem.W.Frag} {a : Ads} {H : Hp} {n m : Nat} {bk dx lk dd : Nat → Addr} {kd : Nat → Fin 3} {ps : Nat → List Int} {f : Nat → List Int → Option Slt} {O : Nat → Addr → Prop} (h : Bks K a H n bk dx lk dd kd ps f O m)
    (hl : LookAt K H (lk n) (.str (kdS (kd n))) (ps n)) {q dq d : Addr} {f' : List Int → Option Slt} {O' : Addr → Prop} (hb : BkAt a H q dq (lk n) d (kd n) f' O' m) (dj : ∀ j c, j < n → O j c → ¬ O' c) (n1 : ∀ j, j < n → ¬ O j q) (n2 : ∀ j, j < n → ¬ O' (bk j)) :
    Bks K a H (n + 1) (upN bk n q) (upN dx n dq) lk (upN dd n d) kd ps (upN f n f') (upN O n O') m := by
  refine ⟨fun i hi => ?_, fun i hi => ?_, fun i j c hi hj hij e1 e2 => ?_, fun i j hi hj e => ?_⟩
  · by_cases z : i = n
    · rw [z]
      exact hl
    · exact h.look i (by omega)
  · by_cases z : i = n
    · subst z
      rw [upN_at, upN_at, upN_at, upN_at, upN_at]
      exact hb
    · have hin : i < n := by omega
      rw [upN_lt hin, upN_lt hin, upN_lt hin, upN_lt hin, upN_lt hin]
      exact h.b i hin
  · by_cases z : i = n
    · subst z
      have hjn : j < i := by omega
      rw [upN_at] at e1
      rw [upN_lt hjn] at e2
      exact dj j c hjn e2 e1
    · have hin : i < n := by omega
      rw [upN_lt hin] at e1
      by_cases w : j = n
      · subst w
        rw [upN_at] at e2
        exact dj i c hin e1 e2
      · have hjn : j < n := by omega
        rw [upN_lt hjn] at e2
        exact h.dj i j c hin hjn hij e1 e2
  · by_cases z : i = n
    · subst z
      rw [upN_at] at e
      by_cases w : j = i
      · subst w
        rw [upN_at] at e
        exact hb.np e
      · have hjn : j < i := by omega
        rw [upN_lt hjn] at e
        exact n2 j hjn e
    · have hin : i < n := by omega
      rw [upN_lt hin] at e
      by_cases w : j = n
      · subst w
        rw [upN_at] at e
        exact n1 i hin e
      · have hjn : j < n := by omega
        rw [upN_lt hjn] at e
        exact h.nb i j hin hjn e
/-- a row of books that have seen nothing, all of it new -/
def NewB (K : PySem.W.Frag) (a : Ads) (H G : Hp) (n : Nat) (bk dx lk dd : Nat → Addr) (kd : Nat → Fin 3) (ps : Nat → List Int) (f : Nat → List Int → Option Slt) (O : Nat → Addr → Prop) : Prop :=
  Bks K a G n bk dx lk dd kd ps f O 0 ∧ (∀ j k, j < n → f j k = none) ∧ (∀ j c, j < n → O j c → H c = none) ∧ (∀ j, j < n → H (bk j) = none)
theorem NewB.zero {K : PySem.W.Frag} {a : Ads} {H G : Hp} {bk dx lk dd : Nat → Addr} {kd : Nat → Fin 3} {ps : Nat → List Int} {f : Nat → List Int → Option Slt} {O : Nat → Addr → Prop} : NewB K a H G 0 bk dx lk dd kd ps f O :=
  ⟨⟨fun i hi => absurd hi (Nat.not_lt_zero i), fun i hi => absurd hi (Nat.not_lt_zero i), fun i _ _ hi => absurd hi (Nat.not_lt_zero i), fun i _ hi => absurd hi (Nat.not_lt_zero i)⟩, fun i _ hi => absurd hi (Nat.not_lt_zero i), fun i _ hi => absurd hi (Nat.not_lt_zero i), fun i hi => absurd hi (Nat.not_lt_zero i)⟩
/-- a next book is made, and appended to the list of them -/
theorem NewB.next {K : PySem.W.Frag} {a : Ads} {H G G2 : Hp} {n : Nat} {bk dx lk dd : Nat → Addr} {kd : Nat → Fin 3} {ps : Nat → List Int} {f : Nat → List Int → Option Slt} {O : Nat → Addr → Prop} (h : NewB K a H G n bk dx lk dd kd ps f O) (hl : LookAt K G (lk n) (.str (kdS (kd n))) (ps n))
    (S : Same H G) {q dq d D : Addr} {xs ys : List V} (hq : G q = none) (hd : G d = none) (S2 : Same G G2) (hb : BkAt a G2 q dq (lk n) d (kd n) (fun _ => none) (fun b => b = d) 0) (hD : G D = some (.lst xs)) :
    NewB K a H (upd G2 D (.lst ys)) (n + 1) (upN bk n q) (upN dx n dq) lk (upN dd n d) kd ps (upN f n fun _ => none) (upN O n fun b => b = d) := by
  obtain ⟨hB, h1, h2, h3⟩ := h
  have live : ∀ j c, j < n → O j c → ∃ o, G c = some o := fun j c hj w => let ⟨o, ho, _⟩ := (hB.b j hj).own c w; ⟨o, ho⟩
  have M := (hB.same S2).snoc (hl.same S2) hb (fun j c hj w z => by
    obtain ⟨o, ho⟩ := live j c hj w
    rw [show c = d from z, hd] at ho
    cases ho) (fun j hj w => by
    obtain ⟨o, ho⟩ := live j q hj w
    rw [hq] at ho
    cases ho) (fun j hj z => by
    have e := (hB.b j hj).me
    rw [show bk j = d from z, hd] at e
    cases e)
  have hD2 := S2 _ _ hD
  have nD := M.nlst hD2
  have SB : ∀ c o, G2 c = some o → c ≠ D → upd G2 D (.lst ys) c = some o := fun c o e ne => upd_oth ne e
  refine ⟨M.frame (O2 := fun c => c = D) (fun c o e ne => SB c o e ne) (fun j c hj w z => nD j hj (z ▸ w)) (fun j hj z => ?_) (fun t xs e => ?_), fun j k hj => ?_, fun j c hj w => ?_, fun j hj => ?_⟩
  · have e := (M.b j hj).me
    rw [z, hD2] at e
    cases e
  · rcases e with (e | ⟨o, e⟩) | e
    · exact .inl (.inl (SB _ _ e (fun z => by rw [z, hD2] at e; cases e)))
    · exact .inl (.inr ⟨o, SB _ _ e (fun z => by rw [z, hD2] at e; cases e)⟩)
    · exact .inr e
  · by_cases z : j = n
    · rw [z, upN_at]
    · rw [upN_lt (by omega)]
      exact h1 j k (by omega)
  · by_cases z : j = n
    · rw [z, upN_at] at w
      rw [show c = d from w]
      exact S.free hd
    · rw [upN_lt (by omega)] at w
      exact h2 j c (by omega) w
  · by_cases z : j = n
    · rw [z, upN_at]
      exact S.free hq
    · rw [upN_lt (by omega)]
      exact h3 j (by omega)
theorem NewB.ag {K : PySem.W.Frag} {a : Ads} {H G : Hp} {n : Nat} {bk dx lk dd : Nat → Addr} {kd : Nat → Fin 3} {ps : Nat → List Int} {f : Nat → List Int → Option Slt} {O : Nat → Addr → Prop} (h : NewB K a H G n bk dx lk dd kd ps f O) : AgrG n kd f (fun i _ => kd0 (kd i)) := fun i hi k => by
  rw [h.2.1 i k hi]
  rfl
/-- where nothing was seen -/
def FX0 (n : Nat) (kd : Nat → Fin 3) : FX := { g := fun i _ => kd0 (kd i), ws := List.replicate n 1099511627776, sg := [], nd := 0 }
theorem refs_mem {g : Nat → Addr} {n : Nat} {x : V} (h : x ∈ refs g n) : ∃ i, i < n ∧ x = .ref (g i) := by
  unfold refs at h
  obtain ⟨i, hi, e⟩ := List.mem_map.mp h
  exact ⟨i, List.mem_range.mp hi, e.symm⟩
theorem LkRow.lks {H : Hp} {n : Nat} {lk : Nat → Addr} {kd : Nat → Fin 3} {tp : Nat → Addr} {ps : Nat → List Int} (h : LkRow H n lk kd tp ps) : Lks H (refs lk n) := fun y hy => by
  obtain ⟨i, hi, rfl⟩ := refs_mem hy
  exact ⟨_, _, _, h i hi⟩
/-- all of a foreteller stands, but what O2 has is changed -/
theorem FtAt.frame {K : PySem.W.Frag} {a : Ads} {H H' : Hp} {p : Addr} {A : FA} {X : FX} {f : Nat → List Int → Option Slt} {O : Nat → Addr → Prop} {m : Nat} (h : FtAt K a H p A X f O m) {O2 : Addr → Prop} (B : ButO O2 H H') (hp : ¬ O2 p) (hm : ¬ O2 A.mp) (hb : ∀ i, i < A.n → ¬ O2 (A.bk i))
    (dj : ∀ i c, i < A.n → O i c → ¬ O2 c) (hl : ∀ l xs, (l = A.bl ∨ l = A.el ∨ l = A.ml ∨ l = A.pl) → H l = some (.lst xs) → H' l = some (.lst xs)) (ht : ∀ t xs, SqT K H t xs → SqT K H' t xs) : FtAt K a H' p A X f O m :=
  ⟨B _ _ h.me hp, hl _ _ (.inl rfl) h.bl, hl _ _ (.inr (.inl rfl)) h.el, ⟨B _ _ h.mx.o hm, hl _ _ (.inr (.inr (.inl rfl))) h.mx.l⟩, h.wok, hl _ _ (.inr (.inr (.inr rfl))) h.pl, h.B.frame B (fun i c hi w => dj i c hi w) hb ht, h.ag, fun j hj => ⟨(h.at' j hj).1, fun kvs e => by
    obtain ⟨kvs0, loc, h1, _⟩ := (h.B.b j hj).tb
    rw [B _ _ h1 (dj j _ hj (h.B.b j hj).dO)] at e
    cases e
    exact (h.at' j hj).2 _ h1⟩, h.np, h.nm, h.n1, h.n6⟩
theorem sqT_put {K : PySem.W.Frag} {G : Hp} {t c : Addr} {xs ys zs : List V} (hc : G c = some (.lst ys)) (e : SqT K G t xs) : SqT K (upd G c (.lst zs)) t xs := by
  rcases e with (e | ⟨o, e⟩) | e
  · exact .inl (.inl (upd_oth (ne_of e hc (by intro z; cases z)) e))
  · exact .inl (.inr ⟨o, upd_oth (ne_of e hc (by intro z; cases z)) e⟩)
  · exact .inr e
/-- another list is changed -/
theorem FtAt.app {K : PySem.W.Frag} {a : Ads} {H : Hp} {p R : Addr} {A : FA} {X : FX} {f : Nat → List Int → Option Slt} {O : Nat → Addr → Prop} {m : Nat} {xs ys : List V} (h : FtAt K a H p A X f O m) (hR : H R = some (.lst xs)) (hq : ∀ q, (q = A.bl ∨ q = A.el ∨ q = A.ml ∨ q = A.pl) → q ≠ R) : FtAt K a (upd H R (.lst ys)) p A X f O m := by
  refine h.frame (O2 := fun c => c = R) (fun c o e ne => upd_oth ne e) (fun z => ?_) (fun z => ?_) (fun i hi z => ?_) (fun i c hi w z => h.B.nlst hR i hi (z ▸ w)) (fun l xs w e => upd_oth (hq l w) e) (fun t xs e => sqT_put hR e)
  · have e := h.me
    rw [z, hR] at e
    cases e
  · have e := h.mx.o
    rw [z, hR] at e
    cases e
  · have e := (h.B.b i hi).me
    rw [z, hR] at e
    cases e
theorem w0_ok (n : Nat) (n1 : 1 ≤ n) (n6 : n ≤ 6) : WOk n (List.replicate n 1099511627776) := by
  refine ⟨List.length_replicate, fun w h => ?_, fun w h => ?_⟩ <;> (rw [List.eq_of_mem_replicate h]; decide)
theorem sc_Foreteller___init__ : FnScope ["self", "looks"] ["self", "looks"] (defScope s_Foreteller___init__) := scMk (by decide +kernel)
/-- a foreteller that is new, and all that belongs to it -/
structure FNew (K : PySem.W.Frag) (a : Ads) (H H' : Hp) (p : Addr) (n : Nat) (lk : Nat → Addr) (kd : Nat → Fin 3) (ps : Nat → List Int) (A : FA) (f : Nat → List Int → Option Slt) (O : Nat → Addr → Prop) : Prop where
  ft : FtAt K a H' p A (FX0 n kd) f O 6
  en : A.n = n
  elk : A.lk = lk
  ekd : A.kd = kd
  eps : A.ps = ps
  oO : ∀ j c, j < n → O j c → H c = none
  oB : ∀ j, j < n → H (A.bk j) = none
  oM : H A.mp = none
  oL : ∀ l, (l = A.bl ∨ l = A.el ∨ l = A.ml ∨ l = A.pl) → H l = none
  lo : H' A.ll = some (.lst (refs lk n)) ∧ A.ll ≠ A.el ∧ H A.ll = none
def sp_finit (K : PySem.W.Frag) (a : Ads) : Sp := fun vs H Q E => ∃ (p dp : Addr) (x : V), vs = [.ref p, x] ∧ H p = some (.ins a.C_Foreteller dp []) ∧
  ((BadL K H x ∧ ∀ H', Same H H' → E (.ref a.C_NoLooks) none H') ∨ ∃ (l : Addr) (n : Nat) (lk : Nat → Addr) (kd : Nat → Fin 3) (tp : Nat → Addr) (ps : Nat → List Int), x = .ref l ∧ H l = some (.lst (refs lk n)) ∧ 1 ≤ n ∧ n ≤ 6 ∧ LkRow H n lk kd tp ps ∧
    ∀ A f O H', FNew K a H H' p n lk kd ps A f O → But p H H' → Q .non H')
theorem ok_Foreteller___init__ (T : Txt K mg a) : FnOk P w K mg base (CXe P w) 6 a.f_Foreteller___init__ a.d_Foreteller___init__ ["self", "looks"] (sp_finit K a) := by
  refine T.y_Foreteller___init__.F.okE sc_Foreteller___init__ (fun vs H Q E h => ?_) (fun cdv A outer s H vs Q E hr h => ?_)
  · obtain ⟨p, dp, x, rfl, _⟩ := h
    rfl
  · obtain ⟨p, dp, x, rfl, hp, h⟩ := h
    refine blk_cons (ps_fld (pv 0) (pe_callE (ok_checked_looks T) (hr.mono (by decide)) rfl T.y_checked_looks.m T.y_checked_looks.F.kp T.y_checked_looks.B .nil catch_fn (pa_cons (pv 1) pa_nil (star_ok rfl))) rfl) ?_
    refine blk_cons (ps_fld (pv 0) (pe_compF (js := []) (ys := []) rfl (pi_list (pe_fld (pv 0) rfl)) (fun C s2 H2 fp => (pe_make T.k_Book (ok_Book___init__ T) (hr.mono (by decide)) rfl T.m_Book T.y_Book___init__.B .nil pass0 (pa_cons (pv 0) pa_nil (star_ok rfl)))) rfl rfl (hyc := all_nil) (hrel := all_nil)) rfl) ?_
    refine blk_cons (ps_fld (pv 0) (pe_make T.k_Mixer (ok_Mixer___init__ T) (hr.mono (by decide)) rfl T.m_Mixer T.y_Mixer___init__.B .nil pass0 (pa_cons (pe_callB call_len_seq rfl T.z_len (by decide +kernel) (pa_cons (pe_fld (pv 0) rfl) pa_nil (star_ok rfl))) pa_nil (star_ok rfl))) rfl) ?_
    refine blk_cons (ps_fld (pv 0) (pe_lst pa_nil) rfl) ?_
    refine blk_cons (ps_fld (pv 0) pe_int rfl) ?_
    refine blk_cons (ps_fld (pv 0) (pe_lst pa_nil) rfl) ?_
    refine ⟨_, (pss_one (ps_expr (pe_meth0 (pv 0) T.cl_Foreteller T.y_Foreteller_arrive.m (ok_Foreteller_arrive T) (hr.mono (by decide)) T.y_Foreteller_arrive.B .nil pass0))), ?_⟩
    try dsimp only [cxOf]
    refine i_start (σ' := [some _, some _]) rfl ?_
    walk_at "rd"
    rcases h with ⟨hb, k⟩ | ⟨l, n, lk, kd, tp, ps, rfl, hl, n1, n6, hlk, k⟩
    · rcases hb with ⟨nm, ty, hn⟩ | ⟨l, xs, bs, rfl, hl, hz, hbs, no⟩
      · exact .inl ⟨x, nm, rfl, ty, hn, k _ (Same.refl _)⟩
      · exact .inr ⟨l, xs, bs, rfl, hl, hz, hbs, fun z => absurd z no, fun _ H' S => k _ S⟩
    · refine .inr ⟨l, refs lk n, List.replicate (refs lk n).length true, rfl, hl, by rw [refs_len]; omega, hlk.lks.bs, fun _ ll H1 hll0 hll1 S1 => ?_, fun no => absurd ⟨by rw [refs_len]; exact n1, by rw [refs_len]; exact n6, all_rep _⟩ no⟩
      have hp1 := S1 _ _ hp
      have hlk1 := hlk.same S1
      walk_at "rd"
      have hpA : upd H1 p (HO.ins a.C_Foreteller dp ([("looks", V.ref ll)] : List (Str × V))) p = some (HO.ins a.C_Foreteller dp ([("looks", V.ref ll)] : List (Str × V))) := upd_same
      have BA : But p H1 (upd H1 p (HO.ins a.C_Foreteller dp ([("looks", V.ref ll)] : List (Str × V)))) := But.upd
      have nlp : ll ≠ p := (ne_of_none hp hll0).symm
      have hllA : upd H1 p (HO.ins a.C_Foreteller dp ([("looks", V.ref ll)] : List (Str × V))) ll = some (.lst (refs lk n)) := upd_oth nlp hll1
      generalize upd H1 p (HO.ins a.C_Foreteller dp ([("looks", V.ref ll)] : List (Str × V))) = HA at hpA BA hllA ⊢
      have B0A : But p H HA := (But.of S1).trans BA
      have hRA : LkRow HA n lk kd tp ps := fun i hi => by
        obtain ⟨q, e, h1, h2, h3⟩ := hlk i hi
        exact ⟨q, e, B0A _ _ h1 (ne_of h1 hp (by intro z; cases z)), B0A _ _ h2 (ne_of h2 hp (by intro z; cases z)), h3⟩
      refine ⟨p, _, dp, _, _, rfl, hpA, T.cl_Foreteller, T.n_Foreteller_looks, rfl, ?_⟩
      refine ⟨ll, rfl, ⟨_, SqL.of hllA⟩, fun bl hbl0 => ?_⟩
      refine comp_list (K := K) (xs := refs lk n) (fun i G => ∃ (bk dx dd : Nat → Addr) (f2 : Nat → List Int → Option Slt) (O2 : Nat → Addr → Prop), G bl = some (.lst (refs bk i)) ∧ NewB K a HA G i bk dx lk dd kd ps f2 O2 ∧ Same HA G)
        ⟨fun _ => 0, fun _ => 0, fun _ => 0, fun _ _ => none, fun _ _ => False, upd_same, NewB.zero, same_upd hbl0⟩ (fun i G _ z => ?_) (fun i y G hy hi z => ?_) (fun G z => ?_)
      · obtain ⟨_, _, _, _, _, _, _, SG⟩ := z
        exact SqL.of (SG _ _ hllA)
      · obtain ⟨bk, dx, dd, f2, O2, gbl, gN, SG⟩ := z
        obtain ⟨rfl, hin⟩ := refs_get hy
        walk_at "rd"
        intro q dq nq ndq neq
        have SQ : Same G (upd (upd G dq (.own q)) q (.ins a.C_Book dq [])) := fun b o e => by rw [upd_ne (ne_of_none e nq), upd_ne (ne_of_none e ndq)]; exact e
        refine ⟨q, dq, lk i, kd i, rfl, upd_same, fun d G2 hd0 hb2 B2 => ⟨rfl, ?_⟩⟩
        have S2' : Same G G2 := fun b o e => B2 b o (SQ b o e) (ne_of_none e nq)
        refine comp_next (n := (refs lk n).length) (S2' _ _ gbl) (line_lt (by rw [refs_len]; omega)) hi ?_
        refine ⟨_, _, _, _, _, ?_, gN.next ((hRA i hin).same SG).at' SG nq (SQ.free hd0) S2' hb2 gbl, fun b o e => upd_oth (ne_of_none e hbl0) (S2' _ _ (SG b o e))⟩
        rw [upd_same, refs_snoc, upN_at]
        congr 3
        exact refs_congr fun j hj => (upN_lt hj).symm
      obtain ⟨bk, dx, dd, f2, O2, gbl, gN, SG⟩ := z
      rw [refs_len] at gbl gN
      have hpG := SG _ _ hpA
      walk_at "rd"
      have SAG : ∀ c o, HA c = some o → c ≠ p → upd G p (HO.ins a.C_Foreteller dp ([("looks", V.ref ll), ("books", V.ref bl)] : List (Str × V))) c = some o := fun c o e ne => upd_oth ne (SG _ _ e)
      have hpB : upd G p (HO.ins a.C_Foreteller dp ([("looks", V.ref ll), ("books", V.ref bl)] : List (Str × V))) p = some (HO.ins a.C_Foreteller dp ([("looks", V.ref ll), ("books", V.ref bl)] : List (Str × V))) := upd_same
      have nbp : bl ≠ p := (ne_of_none hpA hbl0).symm
      have hblB : upd G p (HO.ins a.C_Foreteller dp ([("looks", V.ref ll), ("books", V.ref bl)] : List (Str × V))) bl = some (.lst (refs bk n)) := upd_oth nbp gbl
      have BP : ∀ {fs : List (Str × V)}, But p G (upd G p (HO.ins a.C_Foreteller dp fs)) := But.upd
      have npO : ∀ j, j < n → ¬ O2 j p := fun j hj w => by
        have e := gN.2.2.1 j p hj w
        rw [hpA] at e
        cases e
      have bkB : ∀ {G' : Hp}, But p G G' → Bks K a G' n bk dx lk dd kd ps f2 O2 0 := fun {G'} B => gN.1.frame (O2 := fun c => c = p) (fun c o e ne => B c o e ne) (fun j c hj w z => npO j hj (z ▸ w)) (fun j hj z => by
        have e := gN.2.2.2 j hj
        rw [z, hpA] at e
        cases e) (fun t xs e => by
        rcases e with (e | ⟨o, e⟩) | e
        · exact .inl (.inl (B _ _ e (fun z => by rw [z, hpG] at e; cases e)))
        · exact .inl (.inr ⟨o, B _ _ e (fun z => by rw [z, hpG] at e; cases e)⟩)
        · exact .inr e)
      have BB : But p G (upd G p (HO.ins a.C_Foreteller dp ([("looks", V.ref ll), ("books", V.ref bl)] : List (Str × V)))) := But.upd
      generalize upd G p (HO.ins a.C_Foreteller dp ([("looks", V.ref ll), ("books", V.ref bl)] : List (Str × V))) = HB at SAG hpB hblB BB ⊢
      refine ⟨p, _, dp, _, _, rfl, hpB, T.cl_Foreteller, T.n_Foreteller_looks, rfl, ?_⟩
      refine i_len (SqL.of (SAG _ _ hllA nlp)) ?_
      rw [refs_len]
      walk_at "rd"
      intro mp mx nmp nmx nem
      have SM : Same HB (upd (upd HB mx (.own mp)) mp (.ins a.C_Mixer mx [])) := fun b o e => by rw [upd_ne (ne_of_none e nmp), upd_ne (ne_of_none e nmx)]; exact e
      refine ⟨mp, mx, n, rfl, n1, n6, upd_same, fun ml HC hml0 MC BC => ⟨rfl, ?_⟩⟩
      have SC : Same HB HC := fun b o e => BC b o (SM b o e) (ne_of_none e nmp)
      have hpC := SC _ _ hpB
      have hblC := SC _ _ hblB
      have hml0' : HB ml = none := SM.free hml0
      have nmpp : mp ≠ p := (ne_of_none hpB nmp).symm
      have nmlp : ml ≠ p := (ne_of_none hpB hml0').symm
      walk_at "rd"
      refine ⟨by walk_at "len", fun el hel0 => ?_⟩
      have nel : el ≠ p := fun z => by rw [z, upd_same] at hel0; cases hel0
      have hel0' : HC el = none := by rw [upd_ne nel] at hel0; exact hel0
      have hpD : upd (upd HC p (HO.ins a.C_Foreteller dp ([("looks", V.ref ll), ("books", V.ref bl), ("mixer", V.ref mp)] : List (Str × V)))) el (.lst []) p = some (HO.ins a.C_Foreteller dp ([("looks", V.ref ll), ("books", V.ref bl), ("mixer", V.ref mp)] : List (Str × V))) := upd_oth nel.symm upd_same
      have helD : upd (upd HC p (HO.ins a.C_Foreteller dp ([("looks", V.ref ll), ("books", V.ref bl), ("mixer", V.ref mp)] : List (Str × V)))) el (.lst []) el = some (.lst []) := upd_same
      have BD : But p HC (upd (upd HC p (HO.ins a.C_Foreteller dp ([("looks", V.ref ll), ("books", V.ref bl), ("mixer", V.ref mp)] : List (Str × V)))) el (.lst [])) := fun b o e ne => upd_oth (ne_of_none e hel0') (upd_oth ne e)
      generalize upd (upd HC p (HO.ins a.C_Foreteller dp ([("looks", V.ref ll), ("books", V.ref bl), ("mixer", V.ref mp)] : List (Str × V)))) el (.lst []) = HD at hpD helD BD ⊢
      walk_at "rd"
      refine ⟨by walk_at "len", fun pl0 hpl0 => ?_⟩
      have npl : pl0 ≠ p := fun z => by rw [z, upd_same] at hpl0; cases hpl0
      have hpl0' : HD pl0 = none := by rw [upd_ne npl, upd_ne npl] at hpl0; exact hpl0
      have hpE : upd (upd (upd HD p (HO.ins a.C_Foreteller dp ([("looks", V.ref ll), ("books", V.ref bl), ("mixer", V.ref mp), ("ended", V.ref el)] : List (Str × V)))) p (HO.ins a.C_Foreteller dp ([("looks", V.ref ll), ("books", V.ref bl), ("mixer", V.ref mp), ("ended", V.ref el), ("place", V.int 0)] : List (Str × V)))) pl0 (.lst []) p = some (HO.ins a.C_Foreteller dp ([("looks", V.ref ll), ("books", V.ref bl), ("mixer", V.ref mp), ("ended", V.ref el), ("place", V.int 0)] : List (Str × V))) := upd_oth npl.symm upd_same
      have BE : But p HD (upd (upd (upd HD p (HO.ins a.C_Foreteller dp ([("looks", V.ref ll), ("books", V.ref bl), ("mixer", V.ref mp), ("ended", V.ref el)] : List (Str × V)))) p (HO.ins a.C_Foreteller dp ([("looks", V.ref ll), ("books", V.ref bl), ("mixer", V.ref mp), ("ended", V.ref el), ("place", V.int 0)] : List (Str × V)))) pl0 (.lst [])) := fun b o e ne => upd_oth (ne_of_none e hpl0') (upd_oth ne (upd_oth ne e))
      generalize upd (upd (upd HD p (HO.ins a.C_Foreteller dp ([("looks", V.ref ll), ("books", V.ref bl), ("mixer", V.ref mp), ("ended", V.ref el)] : List (Str × V)))) p (HO.ins a.C_Foreteller dp ([("looks", V.ref ll), ("books", V.ref bl), ("mixer", V.ref mp), ("ended", V.ref el), ("place", V.int 0)] : List (Str × V)))) pl0 (.lst []) = HE at hpE BE ⊢
      walk_at "rd"
      have BF : But p HE (upd HE p (.ins a.C_Foreteller dp (F_Foreteller (.ref ll) (.ref bl) (.ref mp) (.ref el) (.int 0) (.ref pl0)))) := But.upd
      have hpF : upd HE p (.ins a.C_Foreteller dp (F_Foreteller (.ref ll) (.ref bl) (.ref mp) (.ref el) (.int 0) (.ref pl0))) p = some (.ins a.C_Foreteller dp (F_Foreteller (.ref ll) (.ref bl) (.ref mp) (.ref el) (.int 0) (.ref pl0))) := upd_same
      generalize upd HE p (.ins a.C_Foreteller dp (F_Foreteller (.ref ll) (.ref bl) (.ref mp) (.ref el) (.int 0) (.ref pl0))) = HF at hpF BF ⊢
      have BCF : But p HC HF := (BD.trans BE).trans BF
      have BGF : But p G HF := fun b o e ne => BCF b o (SC _ _ (BB b o e ne)) ne
      have moF := BCF _ _ MC.o nmpp
      have mlF := BCF _ _ MC.l nmlp
      have blF := BCF _ _ hblC nbp
      have elF := BF _ _ (BE _ _ helD nel) nel
      refine ⟨p, dp, ll, bl, mp, el, pl0, 0, [], n, 0, bk, dx, lk, dd, kd, ps, f2, O2, fun i _ => kd0 (kd i), rfl, hpF, blF, elF, bkB BGF, gN.ag, n6, by omega, npO, fun pl sl f' O' H' me' pl' hpl' B' ag' at' hO' F' L' => ?_⟩
      have freeG : ∀ {c : Addr}, c ≠ p → HF c = none → G c = none := fun {c} ne h => by
        cases e : G c with
        | none => rfl
        | some o => rw [BGF _ _ e ne] at h; cases h
      have live2 : ∀ j c, j < n → O2 j c → ∃ o, G c = some o := fun j c hj w => let ⟨o, ho, _⟩ := (gN.1.b j hj).own c w; ⟨o, ho⟩
      have nO : ∀ {c : Addr} {o : HO}, HF c = some o → isOb o = false → ∀ j, j < n → ¬ O2 j c := fun {c o} e hi j hj w => by
        obtain ⟨o', ho', hi'⟩ := ((bkB BGF).b j hj).own c w
        rw [e] at ho'
        cases ho'
        rw [hi] at hi'
        cases hi'
      have nOm : ∀ j, j < n → ¬ O2 j mp := fun j hj w => by
        obtain ⟨o, ho⟩ := live2 j mp hj w
        have e := BB _ _ ho nmpp
        rw [nmp] at e
        cases e
      have toH : ∀ {c : Addr}, c ≠ p → HA c = none → H c = none := fun {c} ne h => by
        cases e : H c with
        | none => rfl
        | some o => rw [B0A _ _ e ne] at h; cases h
      have GtoA : ∀ {c : Addr}, G c = none → HA c = none := fun {c} h => SG.free h
      have BtoG : ∀ {c : Addr}, c ≠ p → HB c = none → G c = none := fun {c} ne h => by
        cases e : G c with
        | none => rfl
        | some o => rw [BB _ _ e ne] at h; cases h
      have CtoB : ∀ {c : Addr}, HC c = none → HB c = none := fun {c} h => SC.free h
      refine k ⟨dp, ll, bl, mp, mx, ml, el, pl, n, bk, dx, lk, dd, sl, kd, ps⟩ f' O' H' ⟨⟨me', F' _ _ blF nbp (nO blF rfl), F' _ _ elF nel (nO elF rfl), ⟨F' _ _ moF nmpp nOm, F' _ _ mlF nmlp (nO mlF rfl)⟩, ?_, pl', ⟨B'.look, fun i hi => (B'.b i hi).up (by omega), B'.dj, B'.nb⟩, ag', at', fun j hj w => ?_, fun j hj w => ?_, n1, n6⟩, rfl, rfl, rfl, rfl, fun j c hj w => ?_, fun j hj => ?_, ?_, fun c hc => ?_, F' _ _ (BGF _ _ (SG _ _ hllA) nlp) nlp (nO (BGF _ _ (SG _ _ hllA) nlp) rfl), ne_of_none (SC _ _ (BB _ _ (SG _ _ hllA) nlp)) hel0', hll0⟩ ?_
      · exact w0_ok n n1 n6
      · rcases hO' j p hj w with v | v
        · exact npO j hj v
        · rw [hpF] at v; cases v
      · rcases hO' j mp hj w with v | v
        · exact nOm j hj v
        · rw [moF] at v; cases v
      · have ncp : c ≠ p := fun z => by
          rw [z] at w
          rcases hO' j p hj w with v | v
          · exact npO j hj v
          · rw [hpF] at v; cases v
        rcases hO' j c hj w with v | v
        · exact toH ncp (gN.2.2.1 j c hj v)
        · exact toH ncp (GtoA (freeG ncp v))
      · have nbk : bk j ≠ p := fun z => by
          have e := gN.2.2.2 j hj
          rw [z, hpA] at e
          cases e
        exact toH nbk (gN.2.2.2 j hj)
      · exact toH nmpp (GtoA (BtoG nmpp nmp))
      · rcases hc with z | z | z | z
        · rw [z]
          exact toH nbp hbl0
        · rw [z]
          exact toH nel (GtoA (BtoG nel (CtoB hel0')))
        · rw [z]
          exact toH nmlp (GtoA (BtoG nmlp hml0'))
        · rw [z]
          have nplp : pl ≠ p := (ne_of_none hpF hpl').symm
          exact toH nplp (GtoA (freeG nplp hpl'))
      · intro c o e ne
        refine F' c o (BGF _ _ (SG _ _ (B0A c o e ne)) ne) ne fun j hj w => ?_
        have e2 := gN.2.2.1 j c hj w
        rw [B0A c o e ne] at e2
        cases e2
--%% Foreteller_chances
theorem dec_get : ∀ (ts : List Int) (q j : Nat) (s : Int), ts[q]? = some s → j ≤ 8 → (dec ts)[9 * q + j]? = (1 :: b8 s)[j]?
  | [], _, _, _, h, _ => by simp at h
  | t :: r, 0, j, s, h, hj => by
    have e : t = s := by simpa using h
    subst e
    show ((1 :: b8 t) ++ dec r)[9 * 0 + j]? = _
    rw [Nat.mul_zero, Nat.zero_add, List.getElem?_append_left (by rw [List.length_cons, b8_len]; omega)]
  | t :: r, q + 1, j, s, h, hj => by
    have h' : r[q]? = some s := by simpa using h
    show ((1 :: b8 t) ++ dec r)[9 * (q + 1) + j]? = _
    have l9 : (1 :: b8 t).length = 9 := rfl
    rw [List.getElem?_append_right (by rw [l9]; omega), l9, show 9 * (q + 1) + j - 9 = 9 * q + j by omega]
    exact dec_get r q j s h' hj
theorem dec_end (ts : List Int) : (dec ts)[9 * ts.length]? = some 0 := by
  rw [dec_0, List.getElem?_append_right (by rw [dec0_len]; exact Nat.le_refl _), dec0_len, Nat.sub_self]
  rfl
/-- where one is in a text behind k of its decisions: the signs ended, the node -/
def TxAt (ts : List Int) (k : Nat) (sg : List Int) (nd : Int) : Prop := ∃ q j : Nat, k = 9 * q + j ∧ j ≤ 8 ∧ sg = ts.take q ∧ ((j = 0 ∧ nd = 0 ∧ q ≤ ts.length) ∨ (1 ≤ j ∧ ∃ s, ts[q]? = some s ∧ nd = (256 + s) / 2 ^ (9 - j)))
theorem half8 {s P c : Int} (h : 0 ≤ s ∧ s ≤ 255) (hP : 2 ≤ P) (hc : P * (2 * c) = 256) (c1 : 1 ≤ c ∧ c ≤ 64) : 0 < (256 + s) / (2 * P) ∧ 2 * ((256 + s) / (2 * P)) + s / P % 2 < 256 ∧ 2 * ((256 + s) / (2 * P)) + s / P % 2 = (256 + s) / P := by
  have e1 : (256 + s) / P = s / P + 2 * c := by rw [← hc, Int.add_comm, Int.add_mul_ediv_left _ _ (by omega)]
  have e2 : (256 + s) / (2 * P) = (s / P + 2 * c) / 2 := by rw [← e1, Int.ediv_ediv_of_nonneg (show 0 ≤ P by omega), Int.mul_comm]
  have h0 := Int.ediv_nonneg h.1 (show 0 ≤ P by omega)
  have h1 := Int.ediv_lt_of_lt_mul (show 0 < P by omega) (show s < 128 * P by omega)
  rw [e1, e2]
  generalize s / P = y at h0 h1
  clear hc e1 e2 hP h
  omega
theorem nd9 {s : Int} (h : 0 ≤ s ∧ s ≤ 255) {j : Nat} (h1 : 1 ≤ j) (hj : j ≤ 8) : 0 < (256 + s) / 2 ^ (9 - j) ∧ (256 + s) / 2 ^ (9 - j) < 256 := by
  have a : ∀ j, j < 9 → 1 ≤ j → (2 : Int) ≤ 2 ^ (9 - j) ∧ (2 : Int) ^ (9 - j) ≤ 256 := by decide
  obtain ⟨b, c⟩ := a j (Nat.lt_succ_of_le hj) h1
  generalize (2 : Int) ^ (9 - j) = K at b c
  exact ⟨Int.le_ediv_of_mul_le (by omega) (by omega), Int.ediv_lt_of_lt_mul (by omega) (by omega)⟩
theorem TxAt.zero (ts : List Int) : TxAt ts 0 [] 0 := ⟨0, 0, rfl, by omega, by simp, .inl ⟨rfl, rfl, Nat.zero_le _⟩⟩
theorem TxAt.nd {ts : List Int} {k : Nat} {sg : List Int} {nd : Int} (h : TxAt ts k sg nd) (hs : Sgs ts) : 0 ≤ nd ∧ nd < 256 := by
  obtain ⟨q, j, _, hj, _, h⟩ := h
  rcases h with ⟨_, h, _⟩ | ⟨h1, s, hs', h⟩
  · omega
  · obtain ⟨a, b⟩ := nd9 (hs s (List.mem_of_getElem? hs')) h1 hj
    rw [h]
    exact ⟨Int.le_of_lt a, b⟩
/-- the signs ended, by the law's reckoning -/
theorem TxAt.sg {ts : List Int} {k : Nat} {sg : List Int} {nd : Int} (h : TxAt ts k sg nd) (hs : Sgs ts) : sg = ts.take ((((k : Int) + 8) / 9 - (if 0 < nd then 1 else 0)).toNat) := by
  obtain ⟨q, j, hk, hj, hsg, h⟩ := h
  rw [hsg]
  congr 1
  rcases h with ⟨h0, hn, _⟩ | ⟨h1, s, hs', hn⟩
  · rw [if_neg (by omega)]
    omega
  · have pos : 0 < nd := by rw [hn]; exact (nd9 (hs s (List.mem_of_getElem? hs')) h1 hj).1
    rw [if_pos pos]
    omega
theorem TxAt.len {ts : List Int} {k : Nat} {sg : List Int} {nd : Int} (h : TxAt ts k sg nd) : sg.length ≤ ts.length := by
  obtain ⟨q, j, _, _, hsg, _⟩ := h
  rw [hsg, List.length_take]
  omega
/-- the next decision -/
theorem TxAt.next {ts : List Int} {k : Nat} {sg : List Int} {nd b : Int} (h : TxAt ts k sg nd) (hs : Sgs ts) (hb : (dec ts)[k]? = some b) :
    (k < 9 * ts.length ∧ TxAt ts (k + 1) (sgN sg nd b) (ndN nd b)) ∨ (k = 9 * ts.length ∧ sgN sg nd b = [] ∧ ndN nd b = 0) := by
  obtain ⟨q, j, hk, hj, hsg, h⟩ := h
  rcases h with ⟨h0, hn, hq⟩ | ⟨h1, s, hs', hn⟩
  · subst h0
    rcases Nat.lt_or_ge q ts.length with hl | hl
    · refine .inl ⟨by omega, ?_⟩
      have e := dec_get ts q 0 ts[q] (List.getElem?_eq_getElem hl) (by omega)
      rw [← hk, hb] at e
      have e : b = 1 := by simpa using e
      have := hs ts[q] (List.getElem_mem hl)
      unfold sgN ndN
      rw [if_neg (by omega), if_pos e, if_neg (by omega), if_pos e]
      refine ⟨q, 1, by omega, by omega, hsg, .inr ⟨by omega, ts[q], List.getElem?_eq_getElem hl, ?_⟩⟩
      simp only [Nat.reduceSub, Int.reducePow]
      omega
    · have hq' : q = ts.length := by omega
      have e := dec_end ts
      rw [← hq', show 9 * q = k by omega, hb] at e
      have e : b = 0 := by simpa using e
      refine .inr ⟨by omega, ?_, ?_⟩
      · unfold sgN
        rw [if_neg (by omega), if_neg (by omega)]
      · unfold ndN
        rw [if_neg (by omega), if_neg (by omega)]
        exact hn
  · have hsg' := hs s (List.mem_of_getElem? hs')
    have hl : q < ts.length := (List.getElem?_eq_some_iff.mp hs').1
    have e := dec_get ts q j s hs' hj
    rw [← hk, hb] at e
    have eb : some b = (b8 s)[j - 1]? := by
      obtain ⟨i, rfl⟩ : ∃ i, j = i + 1 := ⟨j - 1, by omega⟩
      simpa using e
    refine .inl ⟨by omega, ?_⟩
    by_cases h8 : j = 8
    · subst h8
      have eb : b = s / 1 % 2 := Option.some.inj eb
      simp only [Nat.reduceSub, Int.reducePow] at hn
      have e1 : 2 * nd + b = 256 + s := by omega
      unfold sgN ndN
      rw [if_pos (by omega), if_pos (by omega), if_pos (by omega), if_pos (by omega)]
      refine ⟨q + 1, 0, by omega, by omega, ?_, .inl ⟨rfl, rfl, by omega⟩⟩
      rw [hsg, show 2 * nd + b - 256 = s by omega, take_snocI hs']
    · have main : 0 < nd ∧ 2 * nd + b < 256 ∧ 2 * nd + b = (256 + s) / 2 ^ (9 - (j + 1)) := by
        have k : ∀ P c : Int, 2 ≤ P → P * (2 * c) = 256 → 1 ≤ c ∧ c ≤ 64 → nd = (256 + s) / (2 * P) → b = s / P % 2 → 0 < nd ∧ 2 * nd + b < 256 ∧ 2 * nd + b = (256 + s) / P := fun P c x y z e f => by
          rw [e, f]
          exact half8 hsg' x y z
        clear hk hb e hsg hl hs
        obtain rfl | rfl | rfl | rfl | rfl | rfl | rfl : j = 1 ∨ j = 2 ∨ j = 3 ∨ j = 4 ∨ j = 5 ∨ j = 6 ∨ j = 7 := by omega
        · exact k 128 1 (by decide) rfl (by decide) hn (Option.some.inj eb)
        · exact k 64 2 (by decide) rfl (by decide) hn (Option.some.inj eb)
        · exact k 32 4 (by decide) rfl (by decide) hn (Option.some.inj eb)
        · exact k 16 8 (by decide) rfl (by decide) hn (Option.some.inj eb)
        · exact k 8 16 (by decide) rfl (by decide) hn (Option.some.inj eb)
        · exact k 4 32 (by decide) rfl (by decide) hn (Option.some.inj eb)
        · exact k 2 64 (by decide) rfl (by decide) hn (Option.some.inj eb)
      obtain ⟨m1, m2, m3⟩ := main
      unfold sgN ndN
      rw [if_pos m1, if_neg (by omega), if_pos m1, if_neg (by omega)]
      exact ⟨q, j + 1, by omega, by omega, hsg, .inr ⟨by omega, s, hs', m3⟩⟩
theorem FtAt.up {K : PySem.W.Frag} {a : Ads} {H : Hp} {p : Addr} {A : FA} {X : FX} {f : Nat → List Int → Option Slt} {O : Nat → Addr → Prop} {m m' : Nat} (h : FtAt K a H p A X f O m) (hm : m ≤ m') : FtAt K a H p A X f O m' :=
  ⟨h.me, h.bl, h.el, h.mx, h.wok, h.pl, ⟨h.B.look, fun i hi => (h.B.b i hi).up hm, h.B.dj, h.B.nb⟩, h.ag, h.at', h.np, h.nm, h.n1, h.n6⟩
theorem Bks.up {K : PySem.W.Frag} {a : Ads} {H : Hp} {n m m' : Nat} {bk dx lk dd : Nat → Addr} {kd : Nat → Fin 3} {ps : Nat → List Int} {f : Nat → List Int → Option Slt} {O : Nat → Addr → Prop} (h : Bks K a H n bk dx lk dd kd ps f O m) (hm : m ≤ m') : Bks K a H n bk dx lk dd kd ps f O m' :=
  ⟨h.look, fun i hi => (h.b i hi).up hm, h.dj, h.nb⟩
/-- all that is neither an instance nor a dict stands, but for what lies at e -/
def Kpt (e : Addr) (H H' : Hp) : Prop := ∀ c o, H c = some o → isOb o = false → c ≠ e → H' c = some o
theorem Kpt.sqt {K : PySem.W.Frag} {e : Addr} {H H' : Hp} (h : Kpt e H H') {xs : List V} (he : H e = some (.lst xs)) {t : Addr} {ys : List V} (ht : SqT K H t ys) : SqT K H' t ys := by
  rcases ht with (q | ⟨o, q⟩) | q
  · exact .inl (.inl (h _ _ q rfl (fun z => by rw [z, he] at q; cases q)))
  · exact .inl (.inr ⟨o, h _ _ q rfl (fun z => by rw [z, he] at q; cases q)⟩)
  · exact .inr q
/-- a foreteller, and beside it books of the same looks and a mixer: all apart -/
structure Lw (K : PySem.W.Frag) (a : Ads) (H : Hp) (p : Addr) (A : FA) (X : FX) (f : Nat → List Int → Option Slt) (O : Nat → Addr → Prop) (m : Nat) (bk dx dd : Nat → Addr) (f2 : Nat → List Int → Option Slt) (O2 : Nat → Addr → Prop) (mp mx ml : Addr) (ws : List Int) : Prop where
  ft : FtAt K a H p A X f O m
  bs : Bks K a H A.n bk dx A.lk dd A.kd A.ps f2 O2 m
  mx : MxAt a mp mx ml ws H
  dj : ∀ i j c, i < A.n → j < A.n → O i c → ¬ O2 j c
  n1 : ∀ i j, i < A.n → j < A.n → ¬ O i (bk j)
  n2 : ∀ i j, i < A.n → j < A.n → ¬ O2 i (A.bk j)
  n3 : ∀ i, i < A.n → ¬ O2 i p ∧ ¬ O2 i A.mp ∧ ¬ O2 i mp ∧ ¬ O i mp
  n4 : mp ≠ A.mp
  n5 : ml ≠ A.el
section
variable {K : PySem.W.Frag} {a : Ads} {H H' : Hp} {p : Addr} {A : FA} {X : FX} {f : Nat → List Int → Option Slt} {O : Nat → Addr → Prop} {m : Nat} {bk dx dd : Nat → Addr} {f2 : Nat → List Int → Option Slt} {O2 : Nat → Addr → Prop} {mp mx ml : Addr} {ws : List Int}
theorem Lw.same (h : Lw K a H p A X f O m bk dx dd f2 O2 mp mx ml ws) (S : Same H H') : Lw K a H' p A X f O m bk dx dd f2 O2 mp mx ml ws :=
  ⟨h.ft.same S, h.bs.same S, h.mx.same S, h.dj, h.n1, h.n2, h.n3, h.n4, h.n5⟩
theorem Lw.up (h : Lw K a H p A X f O m bk dx dd f2 O2 mp mx ml ws) {m' : Nat} (hm : m ≤ m') : Lw K a H p A X f O m' bk dx dd f2 O2 mp mx ml ws :=
  ⟨h.ft.up hm, h.bs.up hm, h.mx, h.dj, h.n1, h.n2, h.n3, h.n4, h.n5⟩
end
/-- what the law expects of a question -/
def Due (H : Hp) (A : FA) (X : FX) (q : Int) (v : V) : Prop := (q = 0 ∧ ∃ d, v = .ref d ∧ H d = some (.lst ((X.cs A).map V.int))) ∨ (q = 1 ∧ ∃ d, v = .ref d ∧ H d = some (.lst (X.ws.map V.int))) ∨ (q = 2 ∧ ∃ d, v = .ref d ∧ H d = some (.lst (X.sg.map V.int))) ∨ (q = 3 ∧ v = .int (mixI X.ws (X.cs A))) ∨ (q = 4 ∧ v = .int X.nd)
theorem Due.same {H H' : Hp} {A : FA} {X : FX} {q : Int} {v : V} (h : Due H A X q v) (S : Same H H') : Due H' A X q v := by
  rcases h with ⟨e, d, e2, h⟩ | ⟨e, d, e2, h⟩ | ⟨e, d, e2, h⟩ | h | h
  · exact .inl ⟨e, d, e2, S _ _ h⟩
  · exact .inr (.inl ⟨e, d, e2, S _ _ h⟩)
  · exact .inr (.inr (.inl ⟨e, d, e2, S _ _ h⟩))
  · exact .inr (.inr (.inr (.inl h)))
  · exact .inr (.inr (.inr (.inr h)))
/-- what was there stands, and is not where the signs lie -/
def KpA (B G : Hp) (e0 e : Addr) : Prop := ∀ c o, B c = some o → isOb o = false → c ≠ e0 → c ≠ e ∧ G c = some o
theorem KpA.refl {B : Hp} {e : Addr} : KpA B B e e := fun _ _ h _ ne => ⟨ne, h⟩
theorem KpA.same {B G G' : Hp} {e0 e : Addr} (h : KpA B G e0 e) (S : Same G G') : KpA B G' e0 e := fun c o hc hi ne => ⟨(h c o hc hi ne).1, S _ _ (h c o hc hi ne).2⟩
theorem KpA.step {B G G' : Hp} {e0 e e' : Addr} (h : KpA B G e0 e) (k : Kpt e G G') (he : e' = e ∨ G e' = none) : KpA B G' e0 e' := fun c o hc hi ne => by
  obtain ⟨h1, h2⟩ := h c o hc hi ne
  refine ⟨?_, k c o h2 hi h1⟩
  rcases he with z | z
  · rw [z]
    exact h1
  · exact ne_of_none h2 z
theorem KpA.trans {B G G' : Hp} {e0 e e' : Addr} (h : KpA B G e0 e) (k : KpA G G' e e') : KpA B G' e0 e' := fun c o hc hi ne => k c o (h c o hc hi ne).2 hi (h c o hc hi ne).1
theorem KpA.lst {B G : Hp} {e0 e c : Addr} {xs : List V} (h : KpA B G e0 e) (hc : B c = some (.lst xs)) (ne : c ≠ e0) : G c = some (.lst xs) := (h c _ hc rfl ne).2
/-- within a text, or behind its last decision -/
def TxE (ts : List Int) (k : Nat) (sg : List Int) (nd : Int) : Prop := (k ≤ 9 * ts.length ∧ TxAt ts k sg nd) ∨ (k = 9 * ts.length + 1 ∧ sg = [] ∧ nd = 0)
theorem TxE.next {ts : List Int} {k : Nat} {sg : List Int} {nd b : Int} (h : TxE ts k sg nd) (hs : Sgs ts) (hb : (dec ts)[k]? = some b) : TxAt ts k sg nd ∧ TxE ts (k + 1) (sgN sg nd b) (ndN nd b) := by
  rcases h with ⟨hk, h⟩ | ⟨hk, _⟩
  · refine ⟨h, ?_⟩
    rcases h.next hs hb with ⟨h1, h2⟩ | ⟨h1, h2, h3⟩
    · exact .inl ⟨by omega, h2⟩
    · exact .inr ⟨by omega, h2, h3⟩
  · rw [hk, List.getElem?_eq_none (by rw [dec_len]; exact Nat.le_refl _)] at hb
    cases hb
theorem sc_Foreteller_chances : FnScope ["self"] ["self"] (defScope s_Foreteller_chances) := scMk (by decide +kernel)
def sp_fchances (K : PySem.W.Frag) (a : Ads) : Sp := fun vs H Q _ => ∃ (p : Addr) (A : FA) (X : FX) (f : Nat → List Int → Option Slt) (O : Nat → Addr → Prop) (m : Nat), vs = [.ref p] ∧ FtAt K a H p A X f O m ∧ ∀ r H', H r = none → H' r = some (.lst ((X.cs A).map V.int)) → Same H H' → Q (.ref r) H'
theorem ok_Foreteller_chances (T : Txt K mg a) : FnOk P w K mg base CX0 2 a.f_Foreteller_chances a.d_Foreteller_chances ["self"] (sp_fchances K a) := by
  refine T.y_Foreteller_chances.F.ok sc_Foreteller_chances (fun vs H Q E h => ?_) (fun cdv A outer s H vs Q E hr h => ?_)
  · obtain ⟨p, A, X, f, O, m, rfl, _⟩ := h
    rfl
  · obtain ⟨p, A', X, f, O, m, rfl, h, k⟩ := h
    have hp := h.me
    have n6 := h.n6
    refine ⟨_, (pss_one (ps_ret (pe_compF (js := []) (ys := []) rfl (pi_list (pe_fld (pv 0) rfl)) (fun C s2 H2 fp => (pe_alt (pe_meth0 (pv 0) T.cl_Even T.y_Even_chance.m (ok_Even_chance T) (hr.mono (by decide)) T.y_Even_chance.B .nil pass0) (pe_alt (pe_meth0 (pv 0) T.cl_Quick T.y_Quick_chance.m (ok_Quick_chance T) (hr.mono (by decide)) T.y_Quick_chance.B .nil pass0) (pe_meth0 (pv 0) T.cl_Run T.y_Run_chance.m (ok_Run_chance T) (hr.mono (by decide)) T.y_Run_chance.B .nil pass0)))) rfl rfl (hyc := all_nil) (hrel := all_nil)))), ?_⟩
    try dsimp only [cxOf]
    refine i_start (σ' := [some _]) rfl ?_
    walk_at "rd"
    refine ⟨A'.pl, rfl, ⟨_, SqL.of h.pl⟩, fun D hD => ?_⟩
    refine comp_list (K := K) (xs := refs A'.sl A'.n) (Mp H D (fun i => V.int (X.g i (X.key A' i)).due)) (Mp.zero hD) (fun _ _ _ q => q.1.seq (SqL.of h.pl)) (fun i y H2 hy hi q => ?_) (fun H2 q => ?_)
    · obtain ⟨S2, hD2⟩ := q
      obtain ⟨rfl, hin⟩ := refs_get hy
      obtain ⟨_, ⟨dq, hs⟩, ok, _⟩ := h.slot hin
      refine i_chance3 (fun Q' h => i_var rfl h) (S2 _ _ hs) ok ?_
      exact Mp.doneR hD (line_lt (by rw [refs_len]; omega)) hi S2 hD2 rfl
    · obtain ⟨S2, hD2⟩ := q
      rw [refs_len] at hD2
      refine k D _ hD ?_ S2
      rw [hD2]
      unfold FX.cs
      rw [List.map_map]
      rfl
--%% Foreteller_chance
theorem sc_Foreteller_chance : FnScope ["self"] ["self"] (defScope s_Foreteller_chance) := scMk (by decide +kernel)
def sp_fchance (K : PySem.W.Frag) (a : Ads) : Sp := fun vs H Q _ => ∃ (p : Addr) (A : FA) (X : FX) (f : Nat → List Int → Option Slt) (O : Nat → Addr → Prop) (m : Nat), vs = [.ref p] ∧ FtAt K a H p A X f O m ∧ ∀ H', Same H H' → Q (.int (mixI X.ws (X.cs A))) H'
theorem ok_Foreteller_chance (T : Txt K mg a) : FnOk P w K mg base CX0 3 a.f_Foreteller_chance a.d_Foreteller_chance ["self"] (sp_fchance K a) := by
  refine T.y_Foreteller_chance.F.ok sc_Foreteller_chance (fun vs H Q E h => ?_) (fun cdv A outer s H vs Q E hr h => ?_)
  · obtain ⟨p, A, X, f, O, m, rfl, _⟩ := h
    rfl
  · obtain ⟨p, A', X, f, O, m, rfl, h, k⟩ := h
    have hp := h.me
    have hmo := h.mx.o
    refine ⟨_, (pss_one (ps_ret (pe_meth (pe_fld (pv 0) rfl) T.cl_Mixer T.y_Mixer_mixed.m (ok_Mixer_mixed T) (hr.mono (by decide)) T.y_Mixer_mixed.B .nil pass0 (pa_cons (pe_meth0 (pv 0) T.cl_Foreteller T.y_Foreteller_chances.m (ok_Foreteller_chances T) (hr.mono (by decide)) T.y_Foreteller_chances.B .nil pass0) pa_nil (star_ok rfl))))), ?_⟩
    try dsimp only [cxOf]
    refine i_start (σ' := [some _]) rfl ?_
    walk_at "rd"
    refine ⟨p, A', X, f, O, m, rfl, h, fun r H1 hr0 hr1 S1 => ?_⟩
    walk_at "rd"
    exact ⟨A'.mp, A'.mx, A'.ml, r, X.ws, X.cs A', A'.n, rfl, h.n1, h.n6, h.wok, h.cok, h.mx.same S1, SqL.of hr1, fun H2 S2 => k _ (S1.trans S2)⟩
--%% Foreteller_weights
theorem sc_Foreteller_weights : FnScope ["self"] ["self"] (defScope s_Foreteller_weights) := scMk (by decide +kernel)
def sp_fweights (K : PySem.W.Frag) (a : Ads) : Sp := fun vs H Q _ => ∃ (p : Addr) (A : FA) (X : FX) (f : Nat → List Int → Option Slt) (O : Nat → Addr → Prop) (m : Nat), vs = [.ref p] ∧ FtAt K a H p A X f O m ∧ ∀ r H', H r = none → H' r = some (.lst (X.ws.map V.int)) → Same H H' → Q (.ref r) H'
theorem ok_Foreteller_weights (T : Txt K mg a) : FnOk P w K mg base CX0 2 a.f_Foreteller_weights a.d_Foreteller_weights ["self"] (sp_fweights K a) := by
  refine T.y_Foreteller_weights.F.ok sc_Foreteller_weights (fun vs H Q E h => ?_) (fun cdv A outer s H vs Q E hr h => ?_)
  · obtain ⟨p, A, X, f, O, m, rfl, _⟩ := h
    rfl
  · obtain ⟨p, A', X, f, O, m, rfl, h, k⟩ := h
    have hp := h.me
    have hmo := h.mx.o
    refine ⟨_, (pss_one (ps_ret (pe_meth0 (pe_fld (pv 0) rfl) T.cl_Mixer T.y_Mixer_weights.m (ok_Mixer_weights T) (hr.mono (by decide)) T.y_Mixer_weights.B .nil pass0))), ?_⟩
    try dsimp only [cxOf]
    refine i_start (σ' := [some _]) rfl ?_
    walk_at "rd"
    exact ⟨A'.mp, A'.mx, A'.ml, X.ws, rfl, h.mx, k⟩
--%% Foreteller_node
theorem sc_Foreteller_node : FnScope ["self"] ["self"] (defScope s_Foreteller_node) := scMk (by decide +kernel)
def sp_fnode (K : PySem.W.Frag) (a : Ads) : Sp := fun vs H Q _ => ∃ (p : Addr) (A : FA) (X : FX) (f : Nat → List Int → Option Slt) (O : Nat → Addr → Prop) (m : Nat), vs = [.ref p] ∧ FtAt K a H p A X f O m ∧ Q (.int X.nd) H
theorem ok_Foreteller_node (T : Txt K mg a) : FnOk P w K mg base CX0 1 a.f_Foreteller_node a.d_Foreteller_node ["self"] (sp_fnode K a) := by
  refine T.y_Foreteller_node.F.ok sc_Foreteller_node (fun vs H Q E h => ?_) (fun cdv A outer s H vs Q E hr h => ?_)
  · obtain ⟨p, A, X, f, O, m, rfl, _⟩ := h
    rfl
  · obtain ⟨p, A', X, f, O, m, rfl, h, k⟩ := h
    have hp := h.me
    refine ⟨_, (pss_one (ps_ret (pe_fld (pv 0) rfl))), ?_⟩
    try dsimp only [cxOf]
    refine i_start (σ' := [some _]) rfl ?_
    walk_at "rd"
    exact k
--%% Foreteller_signs
theorem sc_Foreteller_signs : FnScope ["self"] ["self"] (defScope s_Foreteller_signs) := scMk (by decide +kernel)
def sp_fsigns (K : PySem.W.Frag) (a : Ads) : Sp := fun vs H Q _ => ∃ (p : Addr) (A : FA) (X : FX) (f : Nat → List Int → Option Slt) (O : Nat → Addr → Prop) (m : Nat), vs = [.ref p] ∧ FtAt K a H p A X f O m ∧ ∀ r H', H r = none → H' r = some (.lst (X.sg.map V.int)) → Same H H' → Q (.ref r) H'
theorem ok_Foreteller_signs (T : Txt K mg a) : FnOk P w K mg base CX0 1 a.f_Foreteller_signs a.d_Foreteller_signs ["self"] (sp_fsigns K a) := by
  refine T.y_Foreteller_signs.F.ok sc_Foreteller_signs (fun vs H Q E h => ?_) (fun cdv A outer s H vs Q E hr h => ?_)
  · obtain ⟨p, A, X, f, O, m, rfl, _⟩ := h
    rfl
  · obtain ⟨p, A', X, f, O, m, rfl, h, k⟩ := h
    have hp := h.me
    refine ⟨_, (pss_one (ps_ret (pe_callTy call_list_of rfl T.z_list (by decide +kernel) (pa_cons (pe_fld (pv 0) rfl) pa_nil (star_ok rfl))))), ?_⟩
    try dsimp only [cxOf]
    refine i_start (σ' := [some _]) rfl ?_
    walk_at "rd"
    refine i_listof (SqL.of h.el) fun r hr0 => ?_
    exact k r _ hr0 upd_same (same_upd hr0)
--%% Foreteller_step_in_sign
theorem sc_Foreteller_step_in_sign : FnScope ["self", "bit"] ["self", "bit"] (defScope s_Foreteller_step_in_sign) := scMk (by decide +kernel)
def sp_fsis (a : Ads) : Sp := fun vs H Q _ => ∃ (p dp ll bl mp el pl : Addr) (nd b : Int) (sg : List Int), vs = [.ref p, .int b] ∧ H p = some (.ins a.C_Foreteller dp (F_Foreteller (.ref ll) (.ref bl) (.ref mp) (.ref el) (.int nd) (.ref pl))) ∧ H el = some (.lst (sg.map V.int)) ∧ sg.length ≤ 100000 ∧ 0 < nd ∧
  ∀ H', H' p = some (.ins a.C_Foreteller dp (F_Foreteller (.ref ll) (.ref bl) (.ref mp) (.ref el) (.int (ndN nd b)) (.ref pl))) → H' el = some (.lst ((sgN sg nd b).map V.int)) → (∀ c o, H c = some o → c ≠ p → c ≠ el → H' c = some o) → Q .non H'
theorem ok_Foreteller_step_in_sign (T : Txt K mg a) : FnOk P w K mg base CX0 1 a.f_Foreteller_step_in_sign a.d_Foreteller_step_in_sign ["self", "bit"] (sp_fsis a) := by
  refine T.y_Foreteller_step_in_sign.F.ok sc_Foreteller_step_in_sign (fun vs H Q E h => ?_) (fun cdv A outer s H vs Q E hr h => ?_)
  · obtain ⟨p, dp, ll, bl, mp, el, pl, nd, b, sg, rfl, _⟩ := h
    rfl
  · obtain ⟨p, dp, ll, bl, mp, el, pl, nd, b, sg, rfl, hp, he, hz, h0, k⟩ := h
    refine ⟨_, (pss_cons (ps_fld (pv 0) (pe_op op_add (pe_op op_mul pe_int (pe_fld (pv 0) rfl)) (pv 1)) rfl) (pss_one (ps_if (pt_cmpR op_ge (pe_fld (pv 0) rfl) (pe_gint rfl T.c_NODES_END) (nomark _)) (pss_cons (ps_expr (pe_bm PySem.F.plainAttrs_list PySem.F.slot_list_append PySem.F.type_list_append mt_append (pe_fld (pv 0) rfl) (pa_cons (pe_op op_sub (pe_fld (pv 0) rfl) (pe_gint rfl T.c_NODES_END)) pa_nil (star_ok rfl)))) (pss_one (ps_fld (pv 0) pe_int rfl))) pss_nil))), ?_⟩
    try dsimp only [cxOf]
    refine i_start (σ' := [some _, some _]) rfl ?_
    unfold ndN sgN at k
    rw [if_pos h0, if_pos h0] at k
    have nep : el ≠ p := ne_of he hp (by intro z; cases z)
    walk_at "rd"
    have hp1 : upd H p (.ins a.C_Foreteller dp (F_Foreteller (.ref ll) (.ref bl) (.ref mp) (.ref el) (.int (2 * nd + b)) (.ref pl))) p = some (.ins a.C_Foreteller dp (F_Foreteller (.ref ll) (.ref bl) (.ref mp) (.ref el) (.int (2 * nd + b)) (.ref pl))) := upd_same
    have he1 := upd_oth (o' := HO.ins a.C_Foreteller dp (F_Foreteller (.ref ll) (.ref bl) (.ref mp) (.ref el) (.int (2 * nd + b)) (.ref pl))) nep he
    have B1 : But p H (upd H p (.ins a.C_Foreteller dp (F_Foreteller (.ref ll) (.ref bl) (.ref mp) (.ref el) (.int (2 * nd + b)) (.ref pl)))) := But.upd
    generalize upd H p (.ins a.C_Foreteller dp (F_Foreteller (.ref ll) (.ref bl) (.ref mp) (.ref el) (.int (2 * nd + b)) (.ref pl))) = H1 at hp1 he1 B1 ⊢
    walk_at "rd"
    refine iteD (fun hb => ?_) (fun hb => ?_)
    · rw [if_pos hb, if_pos hb] at k
      walk_at "rd"
      refine i_tyL he1 ?_
      walk_at "rd"
      refine i_append he1 (line_lt (by rw [List.length_map]; omega)) ?_
      have hp2 := upd_oth (o' := HO.lst (List.map V.int sg ++ [V.int (2 * nd + b - 256)])) (Ne.symm nep) hp1
      walk_at "rd"
      refine k _ upd_same ?_ fun c o e n1 n2 => upd_oth n1 (upd_oth n2 (B1 _ _ e n1))
      rw [upd_ne nep, upd_same, List.map_append]
      rfl
    · rw [if_neg hb, if_neg hb] at k
      walk_at "rd"
      exact k _ hp1 he1 fun c o e n1 n2 => B1 _ _ e n1
--%% Foreteller_step
theorem sc_Foreteller_step : FnScope ["self", "bit"] ["self", "bit"] (defScope s_Foreteller_step) := scMk (by decide +kernel)
def sp_fstep (a : Ads) : Sp := fun vs H Q _ => ∃ (p dp ll bl mp el pl : Addr) (nd b : Int) (sg : List Int), vs = [.ref p, .int b] ∧ H p = some (.ins a.C_Foreteller dp (F_Foreteller (.ref ll) (.ref bl) (.ref mp) (.ref el) (.int nd) (.ref pl))) ∧ H el = some (.lst (sg.map V.int)) ∧ sg.length ≤ 100000 ∧ 0 ≤ nd ∧
  ∀ (el' : Addr) H', (el' = el ∨ H el' = none) → H' p = some (.ins a.C_Foreteller dp (F_Foreteller (.ref ll) (.ref bl) (.ref mp) (.ref el') (.int (ndN nd b)) (.ref pl))) → H' el' = some (.lst ((sgN sg nd b).map V.int)) → (∀ c o, H c = some o → c ≠ p → c ≠ el → H' c = some o) → (∃ o, H' el = some o) → Q .non H'
theorem ok_Foreteller_step (T : Txt K mg a) : FnOk P w K mg base CX0 2 a.f_Foreteller_step a.d_Foreteller_step ["self", "bit"] (sp_fstep a) := by
  refine T.y_Foreteller_step.F.ok sc_Foreteller_step (fun vs H Q E h => ?_) (fun cdv A outer s H vs Q E hr h => ?_)
  · obtain ⟨p, dp, ll, bl, mp, el, pl, nd, b, sg, rfl, _⟩ := h
    rfl
  · obtain ⟨p, dp, ll, bl, mp, el, pl, nd, b, sg, rfl, hp, he, hz, h0, k⟩ := h
    refine ⟨_, (pss_one (ps_if (pt_cmpR op_gt (pe_fld (pv 0) rfl) pe_int (nomark _)) (pss_one (ps_expr (pe_meth (pv 0) T.cl_Foreteller T.y_Foreteller_step_in_sign.m (ok_Foreteller_step_in_sign T) (hr.mono (by decide)) T.y_Foreteller_step_in_sign.B .nil pass0 (pa_cons (pv 1) pa_nil (star_ok rfl))))) (pss_one (ps_if (pt_cmpR op_eq (pv 1) pe_int (nomark _)) (pss_one (ps_fld (pv 0) pe_int rfl)) (pss_one (ps_fld (pv 0) (pe_lst pa_nil) rfl)))))), ?_⟩
    try dsimp only [cxOf]
    refine i_start (σ' := [some _, some _]) rfl ?_
    have nep : el ≠ p := ne_of he hp (by intro z; cases z)
    walk_at "rd"
    refine iteD (fun hn => ?_) (fun hn => ?_)
    · walk_at "rd"
      exact ⟨p, dp, ll, bl, mp, el, pl, nd, b, sg, rfl, hp, he, hz, hn, fun H' h1 h2 h3 => k el H' (.inl rfl) h1 h2 h3 ⟨_, h2⟩⟩
    · unfold ndN sgN at k
      rw [if_neg hn, if_neg hn] at k
      walk_at "rd"
      refine iteD (fun hb => ?_) (fun hb => ?_)
      · rw [if_pos hb, if_pos hb] at k
        walk_at "rd"
        exact k el _ (.inl rfl) upd_same (upd_oth nep he) (fun c o e n1 _ => upd_oth n1 e) ⟨_, upd_oth nep he⟩
      · rw [if_neg hb, if_neg hb] at k
        walk_at "rd"
        refine ⟨by walk_at "len", fun r hr0 => ?_⟩
        with_reducible first | refine new_obj2 hr0 fun H1 S1 e1 => ?_ | refine new_obj hr0 fun H1 S1 e1 => ?_
        have hp1 := S1 _ _ hp
        walk_at "rd"
        have nrp : r ≠ p := fun z => by rw [z, hp] at hr0; cases hr0
        exact k r _ (.inr hr0) upd_same (upd_oth nrp e1) (fun c o e n1 _ => upd_oth n1 (S1 _ _ e)) ⟨_, upd_oth nep (S1 _ _ he)⟩
--%% Foreteller_see
abbrev FA.re (A : FA) (ml el pl : Addr) (sl : Nat → Addr) : FA := { A with ml := ml, el := el, pl := pl, sl := sl }
/-- decisions one behind another -/
def FX.run (A : FA) (X : FX) : List Int → FX
  | [] => X
  | b :: r => FX.run A (X.see A b) r
/-- only the number of looks and their places tell how it goes on -/
def fa0 (n : Nat) (ps : Nat → List Int) : FA := { dp := 0, ll := 0, bl := 0, mp := 0, mx := 0, ml := 0, el := 0, pl := 0, n := n, bk := fun _ => 0, dx := fun _ => 0, lk := fun _ => 0, dd := fun _ => 0, sl := fun _ => 0, kd := fun _ => 0, ps := ps }
/-- the looks of a foreteller, as it was given them -/
def LlAt (H : Hp) (A : FA) : Prop := H A.ll = some (.lst (refs A.lk A.n)) ∧ A.ll ≠ A.el ∧ ∃ tp, LkRow H A.n A.lk A.kd tp A.ps
theorem LlAt.same {H H' : Hp} {A : FA} (h : LlAt H A) (S : Same H H') : LlAt H' A := ⟨S _ _ h.1, h.2.1, let ⟨tp, r⟩ := h.2.2; ⟨tp, r.same S⟩⟩
/-- all that a foreteller calls its own -/
def Own (p : Addr) (A : FA) (O : Nat → Addr → Prop) : Addr → Prop := fun c => c = p ∨ c = A.mp ∨ (∃ j, j < A.n ∧ c = A.bk j) ∨ (∃ j, j < A.n ∧ O j c) ∨ c = A.el ∨ c = A.ml
/-- a foreteller of the looks kd, ps that is at X; W: its own things -/
def FW (K : PySem.W.Frag) (a : Ads) (H : Hp) (p : Addr) (n : Nat) (kd : Nat → Fin 3) (ps : Nat → List Int) (X : FX) (M : Nat) (W : Addr → Prop) : Prop :=
  ∃ A f O m, FtAt K a H p A X f O m ∧ m ≤ M ∧ LlAt H A ∧ A.n = n ∧ A.kd = kd ∧ A.ps = ps ∧ 0 ≤ X.nd ∧ X.sg.length ≤ M ∧ ∀ c, W c ↔ Own p A O c
/-- what lies in W was changed, and what was new came to it -/
structure Go (W : Addr → Prop) (H H' : Hp) (W' : Addr → Prop) : Prop where
  fr : ∀ c o, H c = some o → ¬ W c → H' c = some o
  nw : ∀ c, W' c → W c ∨ H c = none
  lv : ∀ c o, H c = some o → ∃ o', H' c = some o'
theorem Go.free {W W' : Addr → Prop} {H H' : Hp} (h : Go W H H' W') {c : Addr} (e : H' c = none) : H c = none := by
  cases z : H c with
  | none => rfl
  | some o =>
    obtain ⟨o', w⟩ := h.lv c o z
    rw [e] at w
    cases w
theorem Go.refl {W : Addr → Prop} {H : Hp} : Go W H H W := ⟨fun _ _ e _ => e, fun _ w => .inl w, fun _ o e => ⟨o, e⟩⟩
theorem Go.trans {W W1 W2 : Addr → Prop} {H H1 H2 : Hp} (h : Go W H H1 W1) (k : Go W1 H1 H2 W2) : Go W H H2 W2 := by
  refine ⟨fun c o e no => k.fr c o (h.fr c o e no) fun w => ?_, fun c w => ?_, fun c o e => ?_⟩
  · rcases h.nw c w with v | v
    · exact no v
    · rw [e] at v
      cases v
  · rcases k.nw c w with v | v
    · exact h.nw c v
    · exact .inr (h.free v)
  · obtain ⟨o1, w1⟩ := h.lv c o e
    exact k.lv c o1 w1
theorem Go.same {W W' : Addr → Prop} {H H1 H2 : Hp} (h : Go W H H1 W') (S : Same H1 H2) : Go W H H2 W' := ⟨fun c o e no => S _ _ (h.fr c o e no), h.nw, fun c o e => let ⟨o', w⟩ := h.lv c o e; ⟨o', S _ _ w⟩⟩
theorem Go.ahead {W W' : Addr → Prop} {H H1 H2 : Hp} (S : Same H H1) (h : Go W H1 H2 W') : Go W H H2 W' := ⟨fun c o e => h.fr c o (S _ _ e), fun c w => (h.nw c w).imp id S.free, fun c o e => h.lv c o (S _ _ e)⟩
/-- what is not its own stays apart -/
theorem Go.apart {W W' U : Addr → Prop} {H H' : Hp} (h : Go W H H' W') (hU : ∀ c, U c → ∃ o, H c = some o) (dj : ∀ c, U c → ¬ W c) : ∀ c, U c → ¬ W' c := fun c u w => by
  rcases h.nw c w with v | v
  · exact dj c u v
  · obtain ⟨o, e⟩ := hU c u
    rw [v] at e
    cases e
section
variable {K : PySem.W.Frag} {a : Ads} {H H' : Hp} {p : Addr} {n : Nat} {kd : Nat → Fin 3} {ps : Nat → List Int} {X : FX} {M : Nat} {W : Addr → Prop}
theorem FtAt.live {A : FA} {f : Nat → List Int → Option Slt} {O : Nat → Addr → Prop} {m : Nat} (h : FtAt K a H p A X f O m) : ∀ c, Own p A O c → ∃ o, H c = some o ∧ ((isOb o = true) ∨ ∃ ns : List Int, o = .lst (ns.map V.int)) := fun c w => by
  rcases w with z | z | ⟨j, hj, z⟩ | ⟨j, hj, z⟩ | z | z
  · exact ⟨_, by rw [z]; exact h.me, .inl rfl⟩
  · exact ⟨_, by rw [z]; exact h.mx.o, .inl rfl⟩
  · exact ⟨_, by rw [z]; exact (h.B.b j hj).me, .inl rfl⟩
  · obtain ⟨o, ho, hi⟩ := (h.B.b j hj).own c z
    exact ⟨o, ho, .inl hi⟩
  · exact ⟨_, by rw [z]; exact h.el, .inr ⟨_, rfl⟩⟩
  · exact ⟨_, by rw [z]; exact h.mx.l, .inr ⟨_, rfl⟩⟩
theorem FW.live (h : FW K a H p n kd ps X M W) : ∀ c, W c → ∃ o, H c = some o := fun c w => by
  obtain ⟨A, f, O, m, hF, _, _, _, _, _, _, _, e⟩ := h
  obtain ⟨o, ho, _⟩ := hF.live c ((e c).mp w)
  exact ⟨o, ho⟩
theorem FW.same (h : FW K a H p n kd ps X M W) (S : Same H H') : FW K a H' p n kd ps X M W := by
  obtain ⟨A, f, O, m, hF, hm, hl, r⟩ := h
  exact ⟨A, f, O, m, hF.same S, hm, hl.same S, r⟩
theorem FW.up (h : FW K a H p n kd ps X M W) {M' : Nat} (hM : M ≤ M') : FW K a H p n kd ps X M' W := by
  obtain ⟨A, f, O, m, hF, hm, hl, e1, e2, e3, e4, e5, e6⟩ := h
  exact ⟨A, f, O, m, hF, Nat.le_trans hm hM, hl, e1, e2, e3, e4, Nat.le_trans e5 hM, e6⟩
/-- a list with something in it that is no number, a tuple, are not its own -/
theorem FW.out (h : FW K a H p n kd ps X M W) {c : Addr} {o : HO} (e : H c = some o) (hi : isOb o = false) (hl : ∀ ns : List Int, o ≠ .lst (ns.map V.int)) : ¬ W c := fun w => by
  obtain ⟨A, f, O, m, hF, _, _, _, _, _, _, _, e'⟩ := h
  obtain ⟨o', ho, z | ⟨ns, z⟩⟩ := hF.live c ((e' c).mp w)
  · rw [e] at ho
    cases ho
    rw [hi] at z
    cases z
  · rw [e] at ho
    cases ho
    exact hl ns z
theorem refs_0' {g : Nat → Addr} {n : Nat} (h : 1 ≤ n) : (refs g n)[0]? = some (.ref (g 0)) := by
  unfold refs
  rw [List.getElem?_map, List.getElem?_range h]
  rfl
theorem refs_no {g : Nat → Addr} {k : Nat} (h : 1 ≤ k) (ns : List Int) : HO.lst (refs g k) ≠ .lst (ns.map V.int) := fun z => by
  have e := HO.lst.inj z
  have e0 := refs_0' (g := g) h
  rw [e, List.getElem?_map] at e0
  cases q : ns[0]? with
  | none => rw [q] at e0; cases e0
  | some x => rw [q] at e0; cases e0
/-- another one has gone on -/
theorem FW.frame {q : Addr} {n' : Nat} {kd' : Nat → Fin 3} {ps' : Nat → List Int} {X' : FX} {M' : Nat} {W' U : Addr → Prop} (hQ : FW K a H q n' kd' ps' X' M' W') (hP : FW K a H p n kd ps X M W) (dj : ∀ c, W' c → ¬ W c) (h : Go W H H' U) : FW K a H' q n' kd' ps' X' M' W' := by
  obtain ⟨A, f, O, m, hF, hm, hl, e1, e2, e3, e4, e5, e6⟩ := hQ
  have oL : ∀ {l : Addr} {g : Nat → Addr}, H l = some (.lst (refs g A.n)) → ¬ W l := fun {l g} e => hP.out e rfl (refs_no hF.n1)
  have oT : ∀ {t : Addr} {xs : List V}, H t = some (.tup xs) → ¬ W t := fun {t xs} e => hP.out e rfl (fun ns z => nomatch z)
  refine ⟨A, f, O, m, hF.frame (O2 := W) (fun c o e no => h.fr c o e no) (dj _ ((e6 _).mpr (.inl rfl))) (dj _ ((e6 _).mpr (.inr (.inl rfl)))) (fun i hi => dj _ ((e6 _).mpr (.inr (.inr (.inl ⟨i, hi, rfl⟩))))) (fun i c hi w => dj _ ((e6 _).mpr (.inr (.inr (.inr (.inl ⟨i, hi, w⟩)))))) (fun l xs hl' e => h.fr _ _ e ?_) (fun t xs e => ?_), hm, ⟨h.fr _ _ hl.1 (oL hl.1), hl.2.1, ?_⟩, e1, e2, e3, e4, e5, e6⟩
  · rcases hl' with z | z | z | z
    · rw [z]; exact oL hF.bl
    · rw [z]; exact dj _ ((e6 _).mpr (.inr (.inr (.inr (.inr (.inl rfl))))))
    · rw [z]; exact dj _ ((e6 _).mpr (.inr (.inr (.inr (.inr (.inr rfl))))))
    · rw [z]; exact oL hF.pl
  · rcases e with (e | ⟨o, e⟩) | e
    · exact .inl (.inl (h.fr _ _ e (oT e)))
    · exact .inl (.inr ⟨o, h.fr _ _ e (hP.out e rfl (fun ns z => nomatch z))⟩)
    · exact .inr e
  · obtain ⟨tp, r⟩ := hl.2.2
    refine ⟨tp, fun i hi => ?_⟩
    obtain ⟨lk, z, h1, h2, h3⟩ := r i hi
    exact ⟨lk, z, h.fr _ _ h1 (oT h1), h.fr _ _ h2 (oT h2), h3⟩
/-- a list of another's is changed -/
theorem FW.lst (h : FW K a H p n kd ps X M W) {r : Addr} {xs ys : List V} (hr : H r = some (.lst xs)) (nr : ¬ W r) (hbl : ∀ A f O m, FtAt K a H p A X f O m → LlAt H A → r ≠ A.bl ∧ r ≠ A.pl ∧ r ≠ A.ll) : FW K a (upd H r (.lst ys)) p n kd ps X M W := by
  obtain ⟨A, f, O, m, hF, hm, hl, e1, e2, e3, e4, e5, e6⟩ := h
  obtain ⟨b1, b2, b3⟩ := hbl A f O m hF hl
  refine ⟨A, f, O, m, hF.app hr (fun q hq z => ?_), hm, ⟨upd_oth (fun z => b3 z.symm) hl.1, hl.2.1, ?_⟩, e1, e2, e3, e4, e5, e6⟩
  · rcases hq with y | y | y | y
    · exact b1 (z.symm.trans y)
    · exact nr ((e6 _).mpr (.inr (.inr (.inr (.inr (.inl (z.symm.trans y)))))))
    · exact nr ((e6 _).mpr (.inr (.inr (.inr (.inr (.inr (z.symm.trans y)))))))
    · exact b2 (z.symm.trans y)
  · obtain ⟨tp, w⟩ := hl.2.2
    refine ⟨tp, fun i hi => (w i hi).upd hr⟩
end
theorem ndN_ok {nd b : Int} (h : 0 ≤ nd) (b0 : 0 ≤ b) : 0 ≤ ndN nd b := by
  unfold ndN
  split
  · split <;> omega
  · split <;> omega
theorem sgN_len (sg : List Int) (nd b : Int) : (sgN sg nd b).length ≤ sg.length + 1 := by
  unfold sgN
  split
  · split
    · rw [List.length_append]; exact Nat.le_refl _
    · omega
  · split
    · omega
    · exact Nat.zero_le _
theorem sc_Foreteller_see : FnScope ["self", "bit", "slot"] ["self", "bit"] (defScope s_Foreteller_see) := scMk (by decide +kernel)
def sp_fsee (K : PySem.W.Frag) (a : Ads) : Sp := fun vs H Q _ => ∃ (p : Addr) (A : FA) (X : FX) (f : Nat → List Int → Option Slt) (O : Nat → Addr → Prop) (m : Nat) (b : Int), vs = [.ref p, .int b] ∧ FtAt K a H p A X f O m ∧ 0 ≤ b ∧ b ≤ 1 ∧ m + 20 < 1000000 ∧ 0 ≤ X.nd ∧ X.sg.length ≤ 100000 ∧
  ∀ (ml el pl : Addr) (sl : Nat → Addr) (f' : Nat → List Int → Option Slt) (O' : Nat → Addr → Prop) (H' : Hp), (el = A.el ∨ H el = none) → FtAt K a H' p { A with ml := ml, el := el, pl := pl, sl := sl } (X.see A b) f' O' (m + A.n) → (∀ j c, j < A.n → O' j c → O j c ∨ H c = none) →
    (∀ c o, H c = some o → c ≠ p → c ≠ A.mp → c ≠ A.el → (∀ j, j < A.n → ¬ O j c) → H' c = some o) → (∀ c o, H c = some o → ∃ o', H' c = some o') → H ml = none → Q .non H'
theorem ok_Foreteller_see (T : Txt K mg a) : FnOk P w K mg base CX0 6 a.f_Foreteller_see a.d_Foreteller_see ["self", "bit"] (sp_fsee K a) := by
  refine T.y_Foreteller_see.F.ok sc_Foreteller_see (fun vs H Q E h => ?_) (fun cdv A outer s H vs Q E hr h => ?_)
  · obtain ⟨p, A, X, f, O, m, b, rfl, _⟩ := h
    rfl
  · obtain ⟨p, A', X, f, O, m, b, rfl, h, b0, b1, hm, hnd, hsg, k⟩ := h
    have hp := h.me
    have hmo := h.mx.o
    have n6 := h.n6
    have hbit := bit_of b0 b1
    refine blk_cons (ps_expr (pe_callE (ok_check_bit T) (hr.mono (by decide)) rfl T.y_check_bit.m T.y_check_bit.F.kp T.y_check_bit.B .nil catch_no (pa_cons (pv 1) pa_nil (star_ok rfl)))) ?_
    refine blk_cons (ps_expr (pe_methE (pe_fld (pv 0) rfl) T.cl_Mixer T.y_Mixer_learn.m (ok_Mixer_learn T) (hr.mono (by decide)) T.y_Mixer_learn.B .nil catch_no (pa_cons (pe_meth0 (pv 0) T.cl_Foreteller T.y_Foreteller_chances.m (ok_Foreteller_chances T) (hr.mono (by decide)) T.y_Foreteller_chances.B .nil pass0) (pa_cons (pv 1) pa_nil (star_ok rfl)) (star_ok rfl)))) ?_
    refine blk_cons (ps_for PassesOwn.never rfl (pi_list (pe_fld (pv 0) rfl)) (pg_name (i := 2) sc_Foreteller_see.nd rfl (Or.inl rfl)) (pss_one (ps_expr (pe_alt (pe_methE (pv 2) T.cl_Even T.y_Even_seen.m (ok_Even_seen T) (hr.mono (by decide)) T.y_Even_seen.B .nil catch_no (pa_cons (pv 1) pa_nil (star_ok rfl))) (pe_alt (pe_methE (pv 2) T.cl_Quick T.y_Quick_seen.m (ok_Quick_seen T) (hr.mono (by decide)) T.y_Quick_seen.B .nil catch_no (pa_cons (pv 1) pa_nil (star_ok rfl))) (pe_methE (pv 2) T.cl_Run T.y_Run_seen.m (ok_Run_seen T) (hr.mono (by decide)) T.y_Run_seen.B .nil catch_no (pa_cons (pv 1) pa_nil (star_ok rfl)))))))) ?_
    refine blk_cons (ps_expr (pe_meth (pv 0) T.cl_Foreteller T.y_Foreteller_step.m (ok_Foreteller_step T) (hr.mono (by decide)) T.y_Foreteller_step.B .nil pass0 (pa_cons (pv 1) pa_nil (star_ok rfl)))) ?_
    refine ⟨_, (pss_one (ps_expr (pe_meth0 (pv 0) T.cl_Foreteller T.y_Foreteller_arrive.m (ok_Foreteller_arrive T) (hr.mono (by decide)) T.y_Foreteller_arrive.B .nil pass0))), ?_⟩
    try dsimp only [cxOf]
    refine i_start (σ' := [some _, some _, none]) rfl ?_
    walk_at "rd"
    refine ⟨.int b, _, rfl, .int b, fun _ => ?_, fun z => (by rw [hbit] at z; cases z)⟩
    walk_at "rd"
    refine ⟨p, A', X, f, O, m, rfl, h, fun r H1 hr0 hr1 S1 => ?_⟩
    have hmo1 := S1 _ _ hmo
    walk_at "rd"
    refine ⟨A'.mp, A'.mx, A'.ml, r, X.ws, X.cs A', A'.n, .int b, _, rfl, h.n1, n6, h.wok, h.cok, h.mx.same S1, SqL.of hr1, .int b, fun b' e _ _ ml H2 hml0 M2 B2 => ?_, fun z => (by rw [hbit] at z; cases z)⟩
    cases e
    have h1 := h.same S1
    have npm : p ≠ A'.mp := fun z => by
      have := h.me
      rw [z, hmo] at this
      injection this with this
      injection this with _ _ e
      exact absurd (congrArg List.length e) (show ¬ (1 = 6) by decide)
    have hp2 := B2 _ _ h1.me npm
    have nl2 : ∀ {l : Addr} {xs : List V}, H1 l = some (.lst xs) → l ≠ A'.mp := fun {l xs} e z => by rw [z, hmo1] at e; cases e
    have hbl2 := B2 _ _ h1.bl (nl2 h1.bl)
    have hel2 := B2 _ _ h1.el (nl2 h1.el)
    have hpl2 := B2 _ _ h1.pl (nl2 h1.pl)
    have Bk2 := h1.B.frame (O2 := fun c => c = A'.mp) (fun c o e ne => B2 c o e ne) (fun j c hj w z => h.nm j hj (z ▸ w)) (fun j hj z => by
      have := (h1.B.b j hj).me
      rw [z, hmo1] at this
      injection this with this
      injection this with _ _ e
      exact absurd (congrArg List.length e) (show ¬ (1 = 2) by decide)) (fun t xs e => by
      rcases e with (e | ⟨o, e⟩) | e
      · exact .inl (.inl (B2 _ _ e (fun z => by rw [z, hmo1] at e; cases e)))
      · exact .inl (.inr ⟨o, B2 _ _ e (fun z => by rw [z, hmo1] at e; cases e)⟩)
      · exact .inr e)
    have at2 : ∀ j, j < A'.n → (∃ s, f j (X.key A' j) = some s) ∧ AtS H2 (A'.dd j) (X.key A' j) (A'.sl j) := fun j hj => ⟨(h1.at' j hj).1, (h1.at' j hj).2.told (h1.B.b j hj) (fun z => h.nm j hj (by rw [← z]; exact (h1.B.b j hj).dO)) B2⟩
    walk_at "rd"
    refine ⟨A'.pl, rfl, ⟨_, SqL.of hpl2⟩, for_list (K := K) (a := A'.pl) (xs := refs A'.sl A'.n) (fun i σ2 G => ∃ (v : Option V) (f' : Nat → List Int → Option Slt), σ2 = [some (.ref p), some (.int b), v] ∧ Bks K a G A'.n A'.bk A'.dx A'.lk A'.dd A'.kd A'.ps f' O m ∧
        (∀ j, j < A'.n → ∀ k, (f' j k).getD (kd0 (A'.kd j)) = if j < i ∧ k = X.key A' j then (X.g j k).see b else X.g j k) ∧ (∀ j, j < A'.n → (∃ s, f' j (X.key A' j) = some s) ∧ AtS G (A'.dd j) (X.key A' j) (A'.sl j)) ∧ (∀ c o, H2 c = some o → (∀ j, j < A'.n → ¬ O j c) → G c = some o))
      ⟨_, f, rfl, Bk2, fun j hj k' => by rw [if_neg (fun z => absurd z.1 (Nat.not_lt_zero j))]; exact h.ag j hj k', at2, fun c o e _ => e⟩ (fun i σ2 G _ ⟨_, _, _, _, _, _, w⟩ => SqL.of (w _ _ hpl2 (Bk2.nlst hpl2))) ?_ ?_⟩
    · rintro i y σ2 G hy ⟨v, f', rfl, gB, gA, gS, gF⟩
      obtain ⟨rfl, hin⟩ := refs_get hy
      obtain ⟨⟨s', hs'⟩, hat⟩ := gS i hin
      have es : s' = X.g i (X.key A' i) := by
        have := gA i hin (X.key A' i)
        rw [hs', if_neg (fun z => absurd z.1 (Nat.lt_irrefl i))] at this
        exact this
      obtain ⟨dq, hq, ok, hkd, hOq⟩ := (gB.b i hin).slot hs' hat
      walk_at "rd"
      refine i_seen3 (x := .int b) (fun Q' h => ?_) (fun Q' h => ?_) hq ok (.int b) (fun b' e _ _ G3 h3 B3 => ?_) (fun z => by rw [hbit] at z; cases z) (fun z => by rw [hbit] at z; cases z) (fun z => by rw [hbit] at z; cases z)
      · walk_at "rd"
        exact h
      · walk_at "rd"
        exact h
      cases e
      have hb3 := (gB.b i hin).told hs' hat b0 b1 h3 B3
      have BO : ButO (O i) G G3 := fun c o e no => B3 _ _ e fun z => no (by rw [z]; exact hOq)
      have M3 := gB.move hin (Nat.le_refl m) hb3 (fun c w => .inl w) BO
      have eO : (fun j => if j = i then O i else O j) = O := by
        funext j
        by_cases z : j = i
        · rw [if_pos z, z]
        · rw [if_neg z]
      rw [eO] at M3
      have ndq : A'.dd i ≠ A'.sl i := fun z => by
        obtain ⟨kvs, loc, w1, _⟩ := (gB.b i hin).tb
        obtain ⟨C, fs, eo⟩ := oS_ins a dq s'
        rw [z, hq, eo] at w1
        cases w1
      walk_at "rd"
      refine ⟨_, _, rfl, M3, fun j hj k' => ?_, fun j hj => ?_, fun c o e no => ?_⟩
      · try dsimp only
        by_cases z : j = i
        · subst z
          rw [if_pos rfl]
          unfold updF
          by_cases w : k' = X.key A' j
          · rw [if_pos w, if_pos ⟨Nat.lt_succ_self j, w⟩, w, ← es]
            rfl
          · rw [if_neg w, if_neg (fun z => w z.2)]
            have := gA j hj k'
            rw [if_neg (fun z => w z.2)] at this
            exact this
        · rw [if_neg z, gA j hj k']
          have : (j < i ∧ k' = X.key A' j) ↔ (j < i + 1 ∧ k' = X.key A' j) := by constructor <;> (rintro ⟨u, v⟩; exact ⟨by omega, v⟩)
          by_cases w : j < i ∧ k' = X.key A' j
          · rw [if_pos w, if_pos (this.mp w)]
          · rw [if_neg w, if_neg (fun z => w (this.mpr z))]
      · try dsimp only
        by_cases z : j = i
        · subst z
          rw [if_pos rfl]
          refine ⟨⟨s'.see b, ?_⟩, hat.told (gB.b j hin) ndq B3⟩
          unfold updF
          rw [if_pos rfl]
        · rw [if_neg z]
          exact ⟨(gS j hj).1, (gS j hj).2.move gB hj hin z BO⟩
      · exact BO _ _ (gF c o e no) (no i hin)
    · rintro σ2 G ⟨v, f', rfl, gB, gA, gS, gF⟩
      rw [refs_len] at gA
      have gp := gF _ _ hp2 h.np
      have gel := gF _ _ hel2 (Bk2.nlst hel2)
      have gbl := gF _ _ hbl2 (Bk2.nlst hbl2)
      have gmo := gF _ _ M2.o h.nm
      have gml := gF _ _ M2.l (Bk2.nlst M2.l)
      walk_at "rd"
      refine ⟨p, A'.dp, A'.ll, A'.bl, A'.mp, A'.el, A'.pl, X.nd, b, X.sg, rfl, gp, gel, hsg, hnd, fun el H4 hel' me4 el4 F4 L4 => ?_⟩
      have nlp : ∀ {l : Addr} {xs : List V}, G l = some (.lst xs) → l ≠ p := fun {l xs} e z => by rw [z, gp] at e; cases e
      have npO : ∀ j, j < A'.n → ¬ O j p := h.np
      have nelO := gB.nlst gel
      have Bk4 := gB.frame (O2 := fun c => c = p ∨ c = A'.el) (fun c o e ne => F4 c o e (fun z => ne (.inl z)) (fun z => ne (.inr z))) (fun j c hj w z => by
        rcases z with z | z
        · exact npO j hj (z ▸ w)
        · exact nelO j hj (z ▸ w)) (fun j hj z => by
        have := (gB.b j hj).me
        rcases z with z | z
        · rw [z, gp] at this
          injection this with this
          injection this with _ _ e
          exact absurd (congrArg List.length e) (show ¬ (6 = 2) by decide)
        · rw [z, gel] at this
          cases this) (fun t xs e => by
        rcases e with (e | ⟨o, e⟩) | e
        · exact .inl (.inl (F4 _ _ e (fun z => by rw [z, gp] at e; cases e) (fun z => by rw [z, gel] at e; cases e)))
        · exact .inl (.inr ⟨o, F4 _ _ e (fun z => by rw [z, gp] at e; cases e) (fun z => by rw [z, gel] at e; cases e)⟩)
        · exact .inr e)
      have nbe : A'.bl ≠ A'.el := fun z => by
        have e := h.bl
        rw [z, h.el] at e
        injection e with e
        injection e with e
        have e0 := congrArg (fun l : List V => l[0]?) e
        have r0 : (refs A'.bk A'.n)[0]? = some (.ref (A'.bk 0)) := by
          unfold refs
          rw [List.getElem?_map, List.getElem?_range h.n1]
          rfl
        try dsimp only at e0
        rw [r0, List.getElem?_map] at e0
        cases hs : X.sg[0]? with
        | none => rw [hs] at e0; cases e0
        | some c => rw [hs] at e0; cases e0
      have nme : ml ≠ A'.el := (ne_of_none h1.el hml0).symm
      have bl4 := F4 _ _ gbl (nlp gbl) nbe
      have mo4 := F4 _ _ gmo (Ne.symm npm) (fun z => by rw [z, gel] at gmo; cases gmo)
      have ml4 := F4 _ _ gml (nlp gml) nme
      have live4 : ∀ c o, H c = some o → ∃ o', H4 c = some o' := fun c o e => by
        by_cases zp : c = p
        · exact ⟨_, zp ▸ me4⟩
        by_cases ze : c = A'.el
        · rw [ze]
          exact L4
        have gc : ∃ o', G c = some o' := by
          by_cases zm : c = A'.mp
          · exact ⟨_, zm ▸ gmo⟩
          by_cases zo : ∀ j, j < A'.n → ¬ O j c
          · exact ⟨o, gF _ _ (B2 _ _ (S1 _ _ e) zm) zo⟩
          · have : ∃ j, j < A'.n ∧ O j c := Classical.byContradiction fun w => zo fun j hj w' => w ⟨j, hj, w'⟩
            obtain ⟨j, hj, w⟩ := this
            obtain ⟨o', ho', _⟩ := (gB.b j hj).own c w
            exact ⟨o', ho'⟩
        obtain ⟨o', ho'⟩ := gc
        exact ⟨o', F4 _ _ ho' zp ze⟩
      have ag4 : AgrG A'.n A'.kd f' (X.see A' b).g := fun j hj k' => by
        rw [gA j hj k']
        show _ = if k' = X.key A' j then (X.g j k').see b else X.g j k'
        by_cases w : k' = X.key A' j
        · rw [if_pos ⟨hj, w⟩, if_pos w]
        · rw [if_neg (fun z => w z.2), if_neg w]
      walk_at "rd"
      refine ⟨p, A'.dp, A'.ll, A'.bl, A'.mp, el, A'.pl, ndN X.nd b, sgN X.sg X.nd b, A'.n, m, A'.bk, A'.dx, A'.lk, A'.dd, A'.kd, A'.ps, f', O, (X.see A' b).g, rfl, me4, bl4, el4, Bk4, ag4, n6, by omega, h.np, fun pl sl f2 O2 H5 me5 pl5 hpl0 B5 ag5 at5 hO5 F5 L5 => ?_⟩
      have nlO4 : ∀ {l : Addr} {xs : List V}, H4 l = some (.lst xs) → l ≠ p := fun {l xs} e z => by rw [z, me4] at e; cases e
      have n2 : ∀ j c, j < A'.n → O2 j c → O j c ∨ H c = none := fun j c hj w => by
        rcases hO5 j c hj w with v | v
        · exact .inl v
        · refine .inr ?_
          cases e : H c with
          | none => rfl
          | some o =>
            obtain ⟨o', ho'⟩ := live4 c o e
            rw [ho'] at v
            cases v
      refine k ml el pl sl f2 O2 H5 ?_ ⟨me5, F5 _ _ bl4 (nlO4 bl4) (Bk4.nlst bl4), F5 _ _ el4 (nlO4 el4) (Bk4.nlst el4), ⟨F5 _ _ mo4 (Ne.symm npm) h.nm, F5 _ _ ml4 (nlO4 ml4) (Bk4.nlst ml4)⟩, lrn_ok h.n1 n6 h.wok h.cok, pl5, B5, ag5, at5, fun j hj w => ?_, fun j hj w => ?_, h.n1, n6⟩ n2 (fun c o e c1 c2 c3 no => F5 _ _ (F4 _ _ (gF _ _ (B2 _ _ (S1 _ _ e) c2) no) c1 c3) c1 no) (fun c o e => let ⟨o', w⟩ := live4 c o e; L5 c o' w) (S1.free hml0)
      · rcases hel' with z | z
        · exact .inl z
        · refine .inr ?_
          cases e : H el with
          | none => rfl
          | some o =>
            exfalso
            by_cases zp : el = p
            · rw [zp, gp] at z; cases z
            by_cases zm : el = A'.mp
            · rw [zm, gmo] at z; cases z
            by_cases zo : ∀ j, j < A'.n → ¬ O j el
            · rw [gF _ _ (B2 _ _ (S1 _ _ e) zm) zo] at z; cases z
            · have : ∃ j, j < A'.n ∧ O j el := Classical.byContradiction fun w => zo fun j hj w' => w ⟨j, hj, w'⟩
              obtain ⟨j, hj, w⟩ := this
              obtain ⟨o', ho', _⟩ := (gB.b j hj).own el w
              rw [ho'] at z
              cases z
      · rcases n2 j p hj w with v | v
        · exact h.np j hj v
        · rw [hp] at v; cases v
      · rcases n2 j A'.mp hj w with v | v
        · exact h.nm j hj v
        · rw [hmo] at v; cases v
/-- one is told a bit -/
theorem FW.see {K : PySem.W.Frag} {a : Ads} {H : Hp} {p : Addr} {n : Nat} {kd : Nat → Fin 3} {ps : Nat → List Int} {X : FX} {M : Nat} {W : Addr → Prop} {b : Int} {Q : VK} {E : XK} (h : FW K a H p n kd ps X M W) (b0 : 0 ≤ b) (b1 : b ≤ 1) (hM : M + 20 < 100000)
    (k : ∀ W' H', FW K a H' p n kd ps (X.see (fa0 n ps) b) (M + 6) W' → Go W H H' W' → Q .non H') : sp_fsee K a [.ref p, .int b] H Q E := by
  obtain ⟨A, f, O, m, hF, hm, hl, rfl, rfl, rfl, e4, e5, e6⟩ := h
  refine ⟨p, A, X, f, O, m, b, rfl, hF, b0, b1, by omega, e4, by omega, fun ml el pl sl f' O' H' he hF' hO' fr lv hml => ?_⟩
  have n6 := hF.n6
  refine k (Own p (A.re ml el pl sl) O') H' ⟨A.re ml el pl sl, f', O', m + A.n, hF', by omega, ⟨?_, ?_, ?_⟩, rfl, rfl, rfl, ndN_ok e4 b0, ?_, fun c => Iff.rfl⟩ ⟨fun c o e no => ?_, fun c w => ?_, lv⟩
  · refine fr _ _ hl.1 (fun z => ?_) (fun z => ?_) hl.2.1 (hF.B.nlst hl.1)
    · have e := hl.1; rw [z, hF.me] at e; cases e
    · have e := hl.1; rw [z, hF.mx.o] at e; cases e
  · rcases he with z | z
    · show A.ll ≠ el
      rw [z]
      exact hl.2.1
    · exact ne_of_none hl.1 z
  · obtain ⟨tp, r⟩ := hl.2.2
    have kp : ∀ {c : Addr} {xs : List V}, H c = some (.tup xs) → H' c = some (.tup xs) := fun {c xs} e => fr c _ e (fun z => by rw [z, hF.me] at e; cases e) (fun z => by rw [z, hF.mx.o] at e; cases e) (fun z => by rw [z, hF.el] at e; cases e) fun j hj w => by
      obtain ⟨o, ho, hi⟩ := (hF.B.b j hj).own c w
      rw [e] at ho
      cases ho
      cases hi
    refine ⟨tp, fun i hi => ?_⟩
    obtain ⟨lk, z, h1, h2, h3⟩ := r i hi
    exact ⟨lk, z, kp h1, kp h2, h3⟩
  · have := sgN_len X.sg X.nd b
    show (sgN X.sg X.nd b).length ≤ M + 6
    omega
  · have no' : ¬ Own p A O c := fun w => no ((e6 c).mpr w)
    exact fr c o e (fun z => no' (.inl z)) (fun z => no' (.inr (.inl z))) (fun z => no' (.inr (.inr (.inr (.inr (.inl z)))))) fun j hj w => no' (.inr (.inr (.inr (.inl ⟨j, hj, w⟩))))
  · rcases w with z | z | ⟨j, hj, z⟩ | ⟨j, hj, z⟩ | z | z
    · exact .inl ((e6 c).mpr (.inl z))
    · exact .inl ((e6 c).mpr (.inr (.inl z)))
    · exact .inl ((e6 c).mpr (.inr (.inr (.inl ⟨j, hj, z⟩))))
    · rcases hO' j c hj z with v | v
      · exact .inl ((e6 c).mpr (.inr (.inr (.inr (.inl ⟨j, hj, v⟩)))))
      · exact .inr v
    · rcases he with y | y
      · exact .inl ((e6 c).mpr (.inr (.inr (.inr (.inr (.inl (show c = A.el from Eq.trans z y)))))))
      · exact .inr (by rw [show c = el from z]; exact y)
    · exact .inr (by rw [show c = ml from z]; exact hml)
/-- one that is new -/
theorem FNew.fw {K : PySem.W.Frag} {a : Ads} {H H' : Hp} {p : Addr} {n : Nat} {lk tp : Nat → Addr} {kd : Nat → Fin 3} {ps : Nat → List Int} {A : FA} {f : Nat → List Int → Option Slt} {O : Nat → Addr → Prop} (h : FNew K a H H' p n lk kd ps A f O) (r : LkRow H' n lk kd tp ps) : FW K a H' p n kd ps (FX0 n kd) 6 (Own p A O) ∧ ∀ c, Own p A O c → c = p ∨ H c = none := by
  obtain ⟨hft, rfl, rfl, rfl, rfl, oO, oB, oM, oL, lo1, lo2, lo3⟩ := h
  refine ⟨⟨A, f, O, 6, hft, Nat.le_refl _, ⟨lo1, lo2, tp, r⟩, rfl, rfl, rfl, Int.le_refl _, Nat.zero_le _, fun c => Iff.rfl⟩, fun c w => ?_⟩
  rcases w with z | z | ⟨j, hj, z⟩ | ⟨j, hj, z⟩ | z | z
  · exact .inl z
  · exact .inr (by rw [z]; exact oM)
  · exact .inr (by rw [z]; exact oB j hj)
  · exact .inr (oO j c hj z)
  · exact .inr (oL c (.inr (.inl z)))
  · exact .inr (oL c (.inr (.inr (.inl z))))
theorem FW.new {K : PySem.W.Frag} {a : Ads} {H : Hp} {p dp l : Addr} {n : Nat} {lk tp : Nat → Addr} {kd : Nat → Fin 3} {ps : Nat → List Int} {Q : VK} {E : XK} (np : H p = none) (ndp : H dp = none) (hl : H l = some (.lst (refs lk n))) (n1 : 1 ≤ n) (n6 : n ≤ 6) (r : LkRow H n lk kd tp ps)
    (k : ∀ W H', FW K a H' p n kd ps (FX0 n kd) 6 W → (∀ c, W c → H c = none) → Same H H' → Q .non H') : sp_finit K a [.ref p, .ref l] (upd (upd H dp (.own p)) p (.ins a.C_Foreteller dp [])) Q E := by
  have S0 : Same H (upd (upd H dp (.own p)) p (.ins a.C_Foreteller dp [])) := fun b o e => by rw [upd_ne (ne_of_none e np), upd_ne (ne_of_none e ndp)]; exact e
  refine ⟨p, dp, .ref l, rfl, upd_same, .inr ⟨l, n, lk, kd, tp, ps, rfl, S0 _ _ hl, n1, n6, r.same S0, fun A f O H1 N1 B1 => ?_⟩⟩
  have S1 : Same H H1 := fun b o e => B1 b o (S0 b o e) (ne_of_none e np)
  obtain ⟨hw, nw⟩ := N1.fw (r.same S1)
  refine k _ H1 hw (fun c w => ?_) S1
  rcases nw c w with z | z
  · rw [z]
    exact np
  · exact S0.free z
theorem Go.bs {W W' : Addr → Prop} {B H H' : Hp} (g : Go W H H' W') (S : Same B H) (hW : ∀ c, W c → B c = none) : Same B H' ∧ ∀ c, W' c → B c = none := by
  refine ⟨fun c o e => g.fr c o (S _ _ e) fun w => ?_, fun c w => ?_⟩
  · rw [hW c w] at e
    cases e
  · rcases g.nw c w with z | z
    · exact hW c z
    · exact S.free z
/-- the items of a row of addresses, each read by itself -/
theorem Sds.refs {K : PySem.W.Frag} {H : Hp} {k : Nat} {g : Nat → Addr} {d : Nat → PyData} : ∀ (n : Nat), (∀ i, i < n → Sd K H (.ref (g i)) (d i) k) → Sds K H (refs g n) ((List.range n).map d) k := fun n h => by
  unfold Law.refs
  have key : ∀ l : List Nat, (∀ i ∈ l, i < n) → Sds K H (l.map fun i => V.ref (g i)) (l.map d) k := by
    intro l
    induction l with
    | nil => exact fun _ => .nil
    | cons i r ih => exact fun hl => .cons (h i (hl i (by simp))) (ih fun j hj => hl j (by simp [hj]))
  exact key (List.range n) fun i hi => List.mem_range.mp hi
theorem sc__law_cell_at : FnScope ["_law_script", "_law_k"] ["_law_script", "_law_k"] (defScope s__law_cell_at) := scMk (by decide +kernel)
def sp_cell_at (K : PySem.W.Frag) : Sp := fun vs H Q _ => ∃ (l : Addr) (ns : List Int) (j : Nat), vs = [.ref l, .int j] ∧ SqL K H l (ns.map V.int) ∧ ∀ n : Int, Q (.int n) H
theorem ok__law_cell_at (T : Txt K mg a) : FnOk P w K mg base CX0 1 a.f__law_cell_at a.d__law_cell_at ["_law_script", "_law_k"] (sp_cell_at K) := by
  refine T.y__law_cell_at.F.ok sc__law_cell_at (fun vs H Q E h => ?_) (fun cdv A outer s H vs Q E hr h => ?_)
  · obtain ⟨l, ns, j, rfl, _⟩ := h
    rfl
  · obtain ⟨l, ns, j, rfl, hl, k⟩ := h
    refine ⟨_, (pss_cons (ps_if (pt_cmpR op_lt (pv 1) (pe_callB call_len_seq rfl T.z_len (by decide +kernel) (pa_cons (pv 0) pa_nil (star_ok rfl))) (nomark _)) (pss_one (ps_ret (pe_op op_mod (pe_ix ix_list (pv 0) (pv 1) (fun _ _ => rfl)) (pe_op (op_powC 1000000000000000000000000000000) pe_int pe_int)))) pss_nil) (pss_one (ps_ret pe_int))), ?_⟩
    try dsimp only [cxOf]
    refine i_start (σ' := [some _, some _]) rfl ?_
    walk_at "rd"
    refine i_len hl ?_
    rw [List.length_map]
    walk_at "rd"
    refine iteD (fun hb => ?_) (fun hb => ?_)
    · have hj : j < ns.length := by omega
      walk_at "rd"
      refine i_ixL (v := V.int ns[j]) hl (atI_nat (by rw [List.getElem?_map, List.getElem?_eq_getElem hj]; rfl)) ?_
      walk_at "rd"
      exact k _
    · walk_at "rd"
      exact k _
--%% _law_look
theorem sc__law_look : FnScope ["_law_cell", "_law_bits_here", "_law_places"] ["_law_cell"] (defScope s__law_look) := scMk (by decide +kernel)
def sp_llook : Sp := fun vs H Q _ => ∃ (c : Int), vs = [.int c] ∧ ∀ lk (kd : Fin 3) (tp : Addr) (ps : List Int) H', LkG H' (.ref lk) kd tp ps → Same H H' → Q (.ref lk) H'
theorem ok__law_look (T : Txt K mg a) : FnOk P w K mg base CX0 1 a.f__law_look a.d__law_look ["_law_cell"] sp_llook := by
  refine T.y__law_look.F.ok sc__law_look (fun vs H Q E h => ?_) (fun cdv A outer s H vs Q E hr h => ?_)
  · obtain ⟨c, rfl, _⟩ := h
    rfl
  · obtain ⟨c, rfl, k⟩ := h
    refine ⟨_, (pss_cons (ps_set (i := 1) sc__law_look.nd rfl (Or.inr rfl) (pe_op op_mod (pe_op op_fdivB (pv 0) pe_int) pe_int)) (pss_cons (ps_compI (i := 2) (js := [1]) (ys := ["_law_bits_here"]) sc__law_look.nd rfl rfl rfl (pi_range1 rfl T.z_range (pa_cons pe_int pa_nil (star_ok rfl))) (fun C s2 H2 fp => (pt_cmpR op_eq (pe_op op_and (pe_op op_shr (pv 1) (pv 0)) pe_int) pe_int (nomark _))) (fun C s2 H2 fp => (pe_op op_add (pv 0) pe_int)) rfl rfl (hyc := (all_cons rfl all_nil)) (hrel := (all_cons rfl all_nil))) (pss_cons (ps_mid (ps_if (pt_cmpR op_eq (pe_op op_mod (pe_op op_fdivB (pv 0) pe_int) pe_int) pe_int (nomark _)) (pss_one (ps_set (i := 2) sc__law_look.nd rfl (Or.inl rfl) (pe_slice sl_list (pv 2) po_none (po_some pe_int)))) pss_nil)) (pss_one (ps_ret (pe_tup (pa_cons (pe_ix ix_list (pe_lst (pa_cons pe_str (pa_cons pe_str (pa_cons pe_str pa_nil (star_ok rfl)) (star_ok rfl)) (star_ok rfl))) (pe_op op_mod (pv 0) pe_int) (fun _ _ => rfl)) (pa_cons (pe_callTy call_tuple_of rfl T.z_tuple (by decide +kernel) (pa_cons (pe_slice sl_list (pv 2) po_none (po_some pe_int)) pa_nil (star_ok rfl))) pa_nil (star_ok rfl)) (star_ok rfl)))))))), ?_⟩
    try dsimp only [cxOf]
    refine i_start (σ' := [some _, none, none]) rfl ?_
    walk_at "rd"
    generalize c / 3 % 256 = bts
    refine ⟨_, rfl, by omega, by omega, fun D hD => ?_⟩
    refine compI_range (n := 8) (fun i G => ∃ ps : List Int, G D = some (.lst (ps.map V.int)) ∧ (∀ p ∈ ps, 1 ≤ p ∧ p ≤ (i : Int)) ∧ ps.Pairwise (· < ·) ∧ ps.length ≤ i ∧ Same H G) ⟨[], upd_same, fun _ z => (nomatch z), List.Pairwise.nil, Nat.le_refl _, same_upd hD⟩ (fun i G hi z => ?_) (fun G z => ?_)
    · obtain ⟨ps, h1, h2, h3, h4, S⟩ := z
      walk_at "rd"
      refine i_I (by omega) ?_
      walk_at "rd"
      refine iteD (fun hb => ?_) (fun hb => ?_)
      · walk_at "rd"
        refine comp_next (n := 8) h1 (line_lt (by rw [List.length_map]; omega)) hi ?_
        refine ⟨ps ++ [0 + (i : Int) + 1], by rw [upd_same, List.map_append]; rfl, fun p hp => ?_, ?_, by rw [List.length_append]; show _ + 1 ≤ _; omega, fun b o e => upd_oth (ne_of_none e hD) (S b o e)⟩
        · rcases List.mem_append.mp hp with h | h
          · have := h2 p h
            omega
          · rw [List.mem_singleton.mp h]
            omega
        · refine List.pairwise_append.mpr ⟨h3, List.pairwise_singleton _ _, fun x hx y hy => ?_⟩
          rw [List.mem_singleton.mp hy]
          have := h2 x hx
          omega
      · exact comp_skip (n := 8) hi ⟨ps, h1, fun p hp => by have := h2 p hp; omega, h3, by omega, S⟩
    · obtain ⟨ps, h1, h2, h3, h4, S⟩ := z
      walk_at "rd"
      refine i_mid (fun σ' G' => ∃ (D2 : Addr) (qs : List Int), σ' = [some (.int c), some (.int bts), some (.ref D2)] ∧ G' D2 = some (.lst (qs.map V.int)) ∧ (∀ p ∈ qs, 1 ≤ p ∧ p ≤ 8) ∧ qs.Pairwise (· < ·) ∧ Same H G') ?_ ?_
      · walk_at "rd"
        refine iteD (fun hb => ?_) (fun hb => ?_)
        · walk_at "rd"
          refine i_slL (SqL.of h1) fun D2 hD2 => ?_
          have ec : cutV (ps.map V.int) none (some 1) = (ps.take 1).map V.int := by rw [List.map_take]; exact cut_take 1
          rw [ec]
          walk_at "rd"
          exact ⟨D2, ps.take 1, rfl, upd_same, fun p hp => h2 p (List.mem_of_mem_take hp), h3.take, S.trans (same_upd hD2)⟩
        · walk_at "rd"
          exact ⟨D, ps, rfl, h1, h2, h3, S⟩
      · rintro σ' G' ⟨D2, qs, rfl, g1, g2, g3, S'⟩
        walk_at "rd"
        refine ⟨by walk_at "len", fun q2 hq2 => ?_⟩
        with_reducible first | refine new_obj2 hq2 fun H3 S3 hq3 => ?_ | refine new_obj hq2 fun H3 S3 hq3 => ?_
        walk_at "rd"
        obtain ⟨kk, hk⟩ := kd_pick c
        refine i_ixL (SqL.of hq3) hk ?_
        walk_at "rd"
        refine i_slL (SqL.of (S3 _ _ g1)) fun u hu => ?_
        have ec : cutV (qs.map V.int) none (some 4) = (qs.take 4).map V.int := by rw [List.map_take]; exact cut_take 4
        rw [ec]
        with_reducible first | refine new_obj2 hu fun H4 S4 hu4 => ?_ | refine new_obj hu fun H4 S4 hu4 => ?_
        refine ⟨u, _, rfl, .inl ⟨SqL.of hu4, fun tp htp => ?_⟩⟩
        with_reducible first | refine new_obj2 htp fun H5 S5 htp5 => ?_ | refine new_obj htp fun H5 S5 htp5 => ?_
        walk_at "rd"
        refine ⟨by walk_at "len", fun lk hlk => ?_⟩
        exact k lk kk tp (qs.take 4) _ ⟨lk, rfl, upd_same, upd_new hlk htp5, places_of (by rw [List.length_take]; omega) (fun p hp => g2 p (List.mem_of_mem_take hp)) g3.take⟩ (S'.trans (S3.trans (S4.trans (S5.trans (same_upd hlk)))))
--%% _law_looks
theorem sc__law_looks : FnScope ["_law_script", "_law_many"] ["_law_script"] (defScope s__law_looks) := scMk (by decide +kernel)
def sp_llooks (K : PySem.W.Frag) : Sp := fun vs H Q _ => ∃ (l : Addr) (ns : List Int), vs = [.ref l] ∧ SqL K H l (ns.map V.int) ∧ ∀ r (n : Nat) (lk : Nat → Addr) (kd : Nat → Fin 3) (tp : Nat → Addr) (ps : Nat → List Int) H', H r = none → H' r = some (.lst (refs lk n)) → 1 ≤ n → n ≤ 6 → LkRow H' n lk kd tp ps → Same H H' → Q (.ref r) H'
theorem ok__law_looks (T : Txt K mg a) : FnOk P w K mg base CX0 2 a.f__law_looks a.d__law_looks ["_law_script"] (sp_llooks K) := by
  refine T.y__law_looks.F.ok sc__law_looks (fun vs H Q E h => ?_) (fun cdv A outer s H vs Q E hr h => ?_)
  · obtain ⟨l, ns, rfl, _⟩ := h
    rfl
  · obtain ⟨l, ns, rfl, hl, k⟩ := h
    refine ⟨_, (pss_cons (ps_set (i := 1) sc__law_looks.nd rfl (Or.inl rfl) (pe_op op_add pe_int (pe_op op_mod (pe_call (ok__law_cell_at T) (hr.mono (by decide)) rfl T.y__law_cell_at.m T.y__law_cell_at.F.kp T.y__law_cell_at.B .nil pass0 (pa_cons (pv 0) (pa_cons pe_int pa_nil (star_ok rfl)) (star_ok rfl))) pe_int))) (pss_cons (ps_mid (ps_if (pt_cmpR op_eq (pe_op op_mod (pe_op op_fdivB (pe_call (ok__law_cell_at T) (hr.mono (by decide)) rfl T.y__law_cell_at.m T.y__law_cell_at.F.kp T.y__law_cell_at.B .nil pass0 (pa_cons (pv 0) (pa_cons pe_int pa_nil (star_ok rfl)) (star_ok rfl))) pe_int) pe_int) pe_int (nomark _)) (pss_one (ps_set (i := 1) sc__law_looks.nd rfl (Or.inl rfl) (pe_op op_add (pv 1) pe_int))) pss_nil)) (pss_one (ps_ret (pe_compF (js := [0]) (ys := ["_law_script"]) rfl (pi_range1 rfl T.z_range (pa_cons (pv 1) pa_nil (star_ok rfl))) (fun C s2 H2 fp => (pe_call (ok__law_look T) (hr.mono (by decide)) rfl T.y__law_look.m T.y__law_look.F.kp T.y__law_look.B .nil pass0 (pa_cons (pe_call (ok__law_cell_at T) (hr.mono (by decide)) rfl T.y__law_cell_at.m T.y__law_cell_at.F.kp T.y__law_cell_at.B .nil pass0 (pa_cons (pv 1) (pa_cons (pe_op op_add pe_int (pv 0)) pa_nil (star_ok rfl)) (star_ok rfl))) pa_nil (star_ok rfl)))) rfl rfl (hyc := (all_cons rfl all_nil)) (hrel := (all_cons rfl all_nil))))))), ?_⟩
    try dsimp only [cxOf]
    refine i_start (σ' := [some _, none]) rfl ?_
    walk_at "rd"
    refine ⟨l, ns, 0, rfl, hl, fun c0 => ?_⟩
    walk_at "rd"
    refine i_mid (fun σ' G' => H = G' ∧ ∃ n : Nat, σ' = [some (.ref l), some (.int n)] ∧ 1 ≤ n ∧ n ≤ 6) ?_ ?_
    · walk_at "rd"
      refine ⟨l, ns, 0, rfl, hl, fun c1 => ?_⟩
      walk_at "rd"
      refine iteD (fun hb => ?_) (fun hb => ?_)
      · walk_at "rd"
        exact ⟨rfl, (1 + c0 % 3 + 3).toNat, by rw [Int.toNat_of_nonneg (by omega)], by omega, by omega⟩
      · walk_at "rd"
        exact ⟨rfl, (1 + c0 % 3).toNat, by rw [Int.toNat_of_nonneg (by omega)], by omega, by omega⟩
    · rintro σ' G' ⟨rfl, n, rfl, n1, n6⟩
      walk_at "rd"
      refine ⟨_, rfl, by omega, by omega, fun D hD => ?_⟩
      refine compF_range (n := n) (fun i G => ∃ (lk : Nat → Addr) (kd : Nat → Fin 3) (tp : Nat → Addr) (ps : Nat → List Int), G D = some (.lst (refs lk i)) ∧ LkRow G i lk kd tp ps ∧ Same H G) ⟨fun _ => 0, fun _ => 0, fun _ => 0, fun _ => [], upd_same, fun j hj => absurd hj (Nat.not_lt_zero j), same_upd hD⟩ (fun i G hi z => ?_) (fun G z => ?_)
      · obtain ⟨lk, kd, tp, ps, gD, gL, S⟩ := z
        walk_at "rd"
        refine ⟨l, ns, 1 + i, by rw [Int.zero_add, Int.natCast_add]; rfl, S.seq hl, fun c => ?_⟩
        walk_at "rd"
        refine ⟨c, rfl, fun q kd' tp' ps' G2 hg S2 => ?_⟩
        have gD2 := S2 _ _ gD
        refine comp_next (n := n) gD2 (line_lt (by rw [refs_len]; omega)) hi ?_
        refine ⟨upN lk i q, upN kd i kd', upN tp i tp', upN ps i ps', ?_, fun j hj => ?_, fun b o e => upd_oth (ne_of_none e hD) (S2 _ _ (S b o e))⟩
        · rw [upd_same, refs_snoc, upN_at]
          congr 3
          exact refs_congr fun j hj => (upN_lt hj).symm
        · by_cases z : j = i
          · subst z
            rw [upN_at, upN_at, upN_at, upN_at]
            exact hg.upd gD2
          · have hji : j < i := by omega
            rw [upN_lt hji, upN_lt hji, upN_lt hji, upN_lt hji]
            exact ((gL j hji).same S2).upd gD2
      · obtain ⟨lk, kd, tp, ps, gD, gL, S⟩ := z
        exact k D n lk kd tp ps G hD gD n1 n6 gL S
--%% _law_sign
theorem sc__law_sign : FnScope ["_law_cell", "_law_first", "_law_way"] ["_law_cell", "_law_first"] (defScope s__law_sign) := scMk (by decide +kernel)
def sp_lsign : Sp := fun vs H Q _ => ∃ (c f : Int), vs = [.int c, .int f] ∧ 0 ≤ f ∧ f ≤ 255 ∧ ∀ (s : Int) H', 0 ≤ s → s ≤ 255 → Same H H' → Q (.int s) H'
theorem ok__law_sign (T : Txt K mg a) : FnOk P w K mg base CX0 1 a.f__law_sign a.d__law_sign ["_law_cell", "_law_first"] sp_lsign := by
  refine T.y__law_sign.F.ok sc__law_sign (fun vs H Q E h => ?_) (fun cdv A outer s H vs Q E hr h => ?_)
  · obtain ⟨c, f, rfl, _⟩ := h
    rfl
  · obtain ⟨c, f, rfl, f0, f1, k⟩ := h
    refine ⟨_, (pss_cons (ps_set (i := 2) sc__law_sign.nd rfl (Or.inl rfl) (pe_op op_mod (pv 0) pe_int)) (pss_cons (ps_if (pt_cmpR op_eq (pv 2) pe_int (nomark _)) (pss_one (ps_ret (pe_op op_mod (pe_op op_fdivB (pv 0) pe_int) pe_int))) pss_nil) (pss_cons (ps_if (pt_cmpR op_eq (pv 2) pe_int (nomark _)) (pss_one (ps_ret (pv 1))) pss_nil) (pss_cons (ps_if (pt_cmpR op_eq (pv 2) pe_int (nomark _)) (pss_one (ps_ret (pe_ix ix_list (pe_lst (pa_cons pe_int (pa_cons pe_int pa_nil (star_ok rfl)) (star_ok rfl))) (pe_op op_mod (pe_op op_fdivB (pv 0) pe_int) pe_int) (fun _ _ => rfl)))) pss_nil) (pss_one (ps_ret (pe_op op_add pe_int (pe_op op_mod (pe_op op_fdivB (pv 0) pe_int) pe_int)))))))), ?_⟩
    try dsimp only [cxOf]
    refine i_start (σ' := [some _, some _, none]) rfl ?_
    walk_at "rd"
    refine iteD (fun hb => ?_) (fun hb => ?_)
    · walk_at "rd"
      exact k _ _ (by omega) (by omega) (Same.refl _)
    · walk_at "rd"
      refine iteD (fun hb => ?_) (fun hb => ?_)
      · walk_at "rd"
        exact k _ _ f0 f1 (Same.refl _)
      · walk_at "rd"
        refine iteD (fun hb => ?_) (fun hb => ?_)
        · walk_at "rd"
          refine ⟨by walk_at "len", fun q hq => ?_⟩
          with_reducible first | refine new_obj2 hq fun H1 S1 hq1 => ?_ | refine new_obj hq fun H1 S1 hq1 => ?_
          walk_at "rd"
          obtain ⟨v, hv, ha⟩ := atI_any (xs := [V.int 0, V.int 255]) (i := c / 4 % 2) (Int.emod_nonneg _ (by decide)) (by show _ < (2 : Int); exact Int.emod_lt_of_pos _ (by decide))
          refine i_ixL (SqL.of hq1) ha ?_
          obtain ⟨sg, rfl, h0, h1⟩ : ∃ sg, v = V.int sg ∧ 0 ≤ sg ∧ sg ≤ 255 := by
            simp only [List.mem_cons, List.not_mem_nil, or_false] at hv
            rcases hv with rfl | rfl <;> exact ⟨_, rfl, by decide, by decide⟩
          exact k _ _ h0 h1 S1
        · walk_at "rd"
          exact k _ _ (by omega) (by omega) (Same.refl _)
--%% _law_text
theorem sc__law_text : FnScope ["_law_script", "_law_at", "_law_many", "_law_first"] ["_law_script", "_law_at", "_law_many"] (defScope s__law_text) := scMk (by decide +kernel)
def sp_ltext (K : PySem.W.Frag) : Sp := fun vs H Q _ => ∃ (l : Addr) (ns : List Int) (at' n : Nat), vs = [.ref l, .int at', .int n] ∧ SqL K H l (ns.map V.int) ∧ n ≤ 1000 ∧ ∀ r (ts : List Int) H', H r = none → H' r = some (.lst (ts.map V.int)) → Sgs ts → ts.length = n → Same H H' → Q (.ref r) H'
theorem ok__law_text (T : Txt K mg a) : FnOk P w K mg base CX0 2 a.f__law_text a.d__law_text ["_law_script", "_law_at", "_law_many"] (sp_ltext K) := by
  refine T.y__law_text.F.ok sc__law_text (fun vs H Q E h => ?_) (fun cdv A outer s H vs Q E hr h => ?_)
  · obtain ⟨l, ns, at', n, rfl, _⟩ := h
    rfl
  · obtain ⟨l, ns, at', n, rfl, hl, hn, k⟩ := h
    refine ⟨_, (pss_cons (ps_set (i := 3) sc__law_text.nd rfl (Or.inr rfl) (pe_op op_mod (pe_call (ok__law_cell_at T) (hr.mono (by decide)) rfl T.y__law_cell_at.m T.y__law_cell_at.F.kp T.y__law_cell_at.B .nil pass0 (pa_cons (pv 0) (pa_cons pe_int pa_nil (star_ok rfl)) (star_ok rfl))) pe_int)) (pss_one (ps_ret (pe_compF (js := [0, 3, 1]) (ys := ["_law_script", "_law_first", "_law_at"]) rfl (pi_range1 rfl T.z_range (pa_cons (pv 2) pa_nil (star_ok rfl))) (fun C s2 H2 fp => (pe_call (ok__law_sign T) (hr.mono (by decide)) rfl T.y__law_sign.m T.y__law_sign.F.kp T.y__law_sign.B .nil pass0 (pa_cons (pe_call (ok__law_cell_at T) (hr.mono (by decide)) rfl T.y__law_cell_at.m T.y__law_cell_at.F.kp T.y__law_cell_at.B .nil pass0 (pa_cons (pv 1) (pa_cons (pe_op op_add (pv 3) (pv 0)) pa_nil (star_ok rfl)) (star_ok rfl))) (pa_cons (pv 2) pa_nil (star_ok rfl)) (star_ok rfl)))) rfl rfl (hyc := (all_cons rfl (all_cons rfl (all_cons rfl all_nil)))) (hrel := (all_cons rfl (all_cons rfl (all_cons rfl all_nil)))))))), ?_⟩
    try dsimp only [cxOf]
    refine i_start (σ' := [some _, some _, some _, none]) rfl ?_
    walk_at "rd"
    refine ⟨l, ns, 7, rfl, hl, fun c0 => ?_⟩
    walk_at "rd"
    have f0 : 0 ≤ c0 % 256 := Int.emod_nonneg _ (by decide)
    have f1 : c0 % 256 < 256 := Int.emod_lt_of_pos _ (by decide)
    generalize c0 % 256 = fi at f0 f1 ⊢
    refine ⟨_, rfl, by omega, by omega, fun D hD => ?_⟩
    refine compF_range (n := n) (fun i G => ∃ ts : List Int, G D = some (.lst (ts.map V.int)) ∧ Sgs ts ∧ ts.length = i ∧ Same H G) ⟨[], upd_same, fun _ z => (nomatch z), rfl, same_upd hD⟩ (fun i G hi z => ?_) (fun G z => ?_)
    · obtain ⟨ts, h1, h2, h3, S⟩ := z
      walk_at "rd"
      refine ⟨l, ns, at' + i, by rw [Int.zero_add, Int.natCast_add]; rfl, S.seq hl, fun c => ?_⟩
      walk_at "rd"
      refine ⟨c, fi, rfl, f0, by omega, fun sg G2 s0 s1 S2 => ?_⟩
      refine comp_next (n := n) (S2 _ _ h1) (line_lt (by rw [List.length_map]; omega)) hi ?_
      refine ⟨ts ++ [sg], by rw [upd_same, List.map_append]; rfl, fun x hx => ?_, by rw [List.length_append, h3]; rfl, fun b o e => upd_oth (ne_of_none e hD) (S2 _ _ (S b o e))⟩
      rcases List.mem_append.mp hx with h | h
      · exact h2 x h
      · rw [List.mem_singleton.mp h]
        exact ⟨s0, s1⟩
    · obtain ⟨ts, h1, h2, h3, S⟩ := z
      exact k D ts G hD h1 h2 h3 S
--%% _law_bits
theorem sc__law_bits : FnScope ["_law_text_here", "_law_bits_here", "_law_sign_here"] ["_law_text_here"] (defScope s__law_bits) := scMk (by decide +kernel)
def sp_ldec (K : PySem.W.Frag) : Sp := fun vs H Q _ => ∃ (t : Addr) (ts : List Int), vs = [.ref t] ∧ H t = some (.lst (ts.map V.int)) ∧ ts.length ≤ 1000 ∧ ∀ r H', H r = none → H' r = some (.lst ((dec ts).map V.int)) → Same H H' → Q (.ref r) H'
theorem ok__law_bits (T : Txt K mg a) : FnOk P w K mg base CX0 1 a.f__law_bits a.d__law_bits ["_law_text_here"] (sp_ldec K) := by
  refine T.y__law_bits.F.ok sc__law_bits (fun vs H Q E h => ?_) (fun cdv A outer s H vs Q E hr h => ?_)
  · obtain ⟨t, ts, rfl, _⟩ := h
    rfl
  · obtain ⟨t, ts, rfl, ht, hz, k⟩ := h
    refine ⟨_, (pss_cons (ps_set (i := 1) sc__law_bits.nd rfl (Or.inl rfl) (pe_lst pa_nil)) (pss_cons (ps_for PassesOwn.never rfl (pi_list (pv 0)) (pg_name (i := 2) sc__law_bits.nd rfl (Or.inr rfl)) (pss_cons (ps_expr (pe_bm PySem.F.plainAttrs_list PySem.F.slot_list_append PySem.F.type_list_append mt_append (pv 1) (pa_cons pe_int pa_nil (star_ok rfl)))) (pss_one (ps_expr (pe_bm PySem.F.plainAttrs_list PySem.F.slot_list_extend PySem.F.type_list_extend mt_extend (pv 1) (pa_cons (pe_compF (js := [2]) (ys := ["_law_sign_here"]) rfl (pi_range1 rfl T.z_range (pa_cons pe_int pa_nil (star_ok rfl))) (fun C s2 H2 fp => (pe_op op_mod (pe_op op_fdivB (pv 1) (pe_op op_shr pe_int (pv 0))) pe_int)) rfl rfl (hyc := (all_cons rfl all_nil)) (hrel := (all_cons rfl all_nil))) pa_nil (star_ok rfl))))))) (pss_one (ps_ret (pe_op op_cat (pv 1) (pe_lst (pa_cons pe_int pa_nil (star_ok rfl)))))))), ?_⟩
    try dsimp only [cxOf]
    refine i_start (σ' := [some _, none, none]) rfl ?_
    walk_at "rd"
    refine ⟨by walk_at "len", fun r hr0 => ?_⟩
    with_reducible first | refine new_obj2 hr0 fun H1 S1 hr1 => ?_ | refine new_obj hr0 fun H1 S1 hr1 => ?_
    walk_at "rd"
    refine ⟨t, rfl, ⟨_, SqL.of (S1 _ _ ht)⟩, for_list (K := K) (a := t) (xs := ts.map V.int) (fun i σ2 G => ∃ v : Option V, σ2 = [some (.ref t), some (.ref r), v] ∧ G r = some (.lst ((dec0 (ts.take i)).map V.int)) ∧ Same H G)
      ⟨_, rfl, hr1, S1⟩ (fun i σ2 G _ ⟨_, _, _, S⟩ => SqL.of (S _ _ ht)) ?_ ?_⟩
    · rintro i y σ2 G hy ⟨v, rfl, hr2, S2⟩
      obtain ⟨s', rfl, _, hs', il⟩ := getInt hy
      have ltk : (dec0 (ts.take i)).length ≤ 9 * 1000 := by
        rw [dec0_len, List.length_take]
        omega
      walk_at "rd"
      refine i_tyL hr2 ?_
      walk_at "rd"
      refine i_append hr2 (line_lt (by rw [List.length_map]; omega)) ?_
      have hr3 : upd G r (.lst ((dec0 (ts.take i)).map V.int ++ [V.int 1])) r = some (.lst ((dec0 (ts.take i) ++ [1]).map V.int)) := by rw [upd_same, List.map_append]; rfl
      have S3 : Same H (upd G r (.lst ((dec0 (ts.take i)).map V.int ++ [V.int 1]))) := fun b o e => upd_oth (ne_of_none e hr0) (S2 b o e)
      generalize upd G r (.lst ((dec0 (ts.take i)).map V.int ++ [V.int 1])) = G3 at hr3 S3 ⊢
      walk_at "rd"
      refine i_tyL hr3 ?_
      walk_at "rd"
      refine ⟨_, rfl, by omega, by omega, fun D hD => ?_⟩
      refine compF_rangeM (n := 8) (fun i => V.int (s' / (128 / 2 ^ i) % 2)) hD (fun j G4 hj S4 hD4 => ?_) (fun G4 S4 hD4 => ?_)
      · walk_at "rd"
        refine i_I (by omega) ?_
        walk_at "rd"
        have ej : ((0 : Int) + (j : Int)).toNat = j := by omega
        rw [ej]
        have pj : (0 : Int) < 128 / 2 ^ j ∧ (128 : Int) / 2 ^ j < 2 ^ 200 := by
          obtain rfl | rfl | rfl | rfl | rfl | rfl | rfl | rfl : j = 0 ∨ j = 1 ∨ j = 2 ∨ j = 3 ∨ j = 4 ∨ j = 5 ∨ j = 6 ∨ j = 7 := by omega
          all_goals exact ⟨by decide, by decide⟩
        refine i_I pj ?_
        walk_at "rd"
        exact Mp.doneR hD (line_lt (by decide)) hj S4 hD4 rfl
      · rw [b8_range] at hD4
        walk_at "rd"
        refine ⟨r, D, _, _, rfl, rfl, S4 _ _ hr3, hD4, line_le (by rw [List.length_map, List.length_map, List.length_append, b8_len]; show _ + 1 + 8 ≤ _; omega), ?_⟩
        refine ⟨_, rfl, ?_, fun b o e => upd_oth (ne_of_none e hr0) (S4 _ _ (S3 b o e))⟩
        rw [upd_same, take_snocI hs', dec0_snoc]
        simp
    · rintro σ2 G ⟨v, rfl, hr2, S2⟩
      rw [List.length_map, List.take_length] at hr2
      walk_at "rd"
      refine ⟨by walk_at "len", fun n hn => ?_⟩
      with_reducible first | refine new_obj2 hn fun H3 S3 hn3 => ?_ | refine new_obj hn fun H3 S3 hn3 => ?_
      refine ⟨r, n, _, _, rfl, rfl, S3 _ _ hr2, hn3, line_le (by rw [List.length_map, dec0_len]; show _ + 1 ≤ _; omega), fun c hc => ?_⟩
      refine k c _ ((S2.trans S3).free hc) ?_ (S2.trans (S3.trans (same_upd hc)))
      rw [upd_same, dec_0, List.map_append]
      rfl
--%% _law_learnt
theorem sc__law_learnt : FnScope ["_law_weights", "_law_chances", "_law_bit", "_law_many", "_law_shares", "_law_k", "_law_part", "_law_grown", "_law_short", "_law_by"] ["_law_weights", "_law_chances", "_law_bit"] (defScope s__law_learnt) := scMk (by decide +kernel)
def sp_llearnt (K : PySem.W.Frag) : Sp := fun vs H Q _ => ∃ (q c : Addr) (ws cs : List Int) (n : Nat) (b : Int), vs = [.ref q, .ref c, .int b] ∧ 1 ≤ n ∧ n ≤ 6 ∧ WOk n ws ∧ COk n cs ∧ 0 ≤ b ∧ b ≤ 1 ∧ SqL K H q (ws.map V.int) ∧ SqL K H c (cs.map V.int) ∧
  ∀ r H', H r = none → H' r = some (.lst ((lrn ws cs b).map V.int)) → Same H H' → Q (.ref r) H'
theorem ok__law_learnt (T : Txt K mg a) : FnOk P w K mg base CX0 1 a.f__law_learnt a.d__law_learnt ["_law_weights", "_law_chances", "_law_bit"] (sp_llearnt K) := by
  refine T.y__law_learnt.F.ok sc__law_learnt (fun vs H Q E h => ?_) (fun cdv A outer s H vs Q E hr h => ?_)
  · obtain ⟨q, c, ws, cs, n, b, rfl, _⟩ := h
    rfl
  · obtain ⟨q, c, ws, cs, n, b, rfl, n1, n6, hw, hc, b0, b1, hq, hcq, k⟩ := h
    refine blk_cons (ps_set (i := 3) sc__law_learnt.nd rfl (Or.inr rfl) (pe_callB call_len_seq rfl T.z_len (by decide +kernel) (pa_cons (pv 0) pa_nil (star_ok rfl)))) ?_
    refine blk_cons (ps_set (i := 4) sc__law_learnt.nd rfl (Or.inr rfl) (pe_lst pa_nil)) ?_
    refine blk_cons (ps_for PassesOwn.never rfl (pi_range1 rfl T.z_range (pa_cons (pv 3) pa_nil (star_ok rfl))) (pg_name (i := 5) sc__law_learnt.nd rfl (Or.inl rfl)) (pss_cons (ps_set (i := 6) sc__law_learnt.nd rfl (Or.inl rfl) (pe_ix ix_list (pv 1) (pv 5) (fun _ _ => rfl))) (pss_cons (ps_if (pt_cmpR op_eq (pv 2) pe_int (nomark _)) (pss_one (ps_set (i := 6) sc__law_learnt.nd rfl (Or.inl rfl) (pe_op op_sub (pe_op (op_shlC 16777216) pe_int pe_int) (pe_ix ix_list (pv 1) (pv 5) (fun _ _ => rfl))))) pss_nil) (pss_one (ps_expr (pe_bm PySem.F.plainAttrs_list PySem.F.slot_list_append PySem.F.type_list_append mt_append (pv 4) (pa_cons (pe_op op_mul (pe_ix ix_list (pv 0) (pv 5) (fun _ _ => rfl)) (pv 6)) pa_nil (star_ok rfl)))))))) ?_
    refine blk_cons (ps_compF (i := 7) (js := [4, 3]) (ys := ["_law_shares", "_law_many"]) sc__law_learnt.nd rfl rfl rfl (pi_list (pv 4)) (fun C s2 H2 fp => (pe_op op_add (pe_op op_mul (pe_op op_mul pe_int (pv 2)) (pv 0)) (pe_callB (r := rSum K) (call_sum rfl) rfl T.z_sum (by decide +kernel) (pa_cons (pv 1) pa_nil (star_ok rfl))))) rfl rfl (hyc := (all_cons rfl (all_cons rfl all_nil))) (hrel := (all_cons rfl (all_cons rfl all_nil)))) ?_
    refine blk_cons (ps_set (i := 8) sc__law_learnt.nd rfl (Or.inl rfl) (pe_callB (call_sum rfl) rfl T.z_sum (by decide +kernel) (pa_cons (pv 7) pa_nil (star_ok rfl)))) ?_
    refine blk_cons (ps_set (i := 9) sc__law_learnt.nd rfl (Or.inr rfl) pe_int) ?_
    refine blk_cons (ps_while PassesOwn.never (pt_cmpR op_ge (pv 8) (pe_op (op_shlC 281474976710656) pe_int pe_int) (nomark _)) (pss_cons (ps_set (i := 8) sc__law_learnt.nd rfl (Or.inl rfl) (pe_op op_fdivB (pv 8) pe_int)) (pss_one (ps_set (i := 9) sc__law_learnt.nd rfl (Or.inr rfl) (pe_op op_mul pe_int (pv 9)))))) ?_
    refine ⟨_, (pss_one (ps_ret (pe_compF (js := [9]) (ys := ["_law_by"]) rfl (pi_list (pv 7)) (fun C s2 H2 fp => (pe_op op_fdivB (pv 0) (pv 1))) rfl rfl (hyc := (all_cons rfl all_nil)) (hrel := (all_cons rfl all_nil))))), ?_⟩
    try dsimp only [cxOf]
    refine i_start (σ' := [some _, some _, some _, none, none, none, none, none, none, none]) rfl ?_
    walk_at "rd"
    refine i_len hq ?_
    rw [List.length_map, hw.len]
    walk_at "rd"
    refine ⟨by walk_at "len", fun r hr0 => ?_⟩
    with_reducible first | refine new_obj2 hr0 fun H1 S1 e1 => ?_ | refine new_obj hr0 fun H1 S1 e1 => ?_
    have shl : (shL ws cs b).length = n := by rw [shL_len (by rw [hw.len, hc.len]), hw.len]
    walk_at "rd"
    refine ⟨_, rfl, by omega, by omega, for_range (n := n) (fun i σ2 H2 => ∃ v1 v2 : Option V, σ2 = [some (.ref q), some (.ref c), some (.int b), some (.int n), some (.ref r), v1, v2, none, none, none] ∧ H2 r = some (.lst (((shL ws cs b).take i).map V.int)) ∧ Same H H2) ⟨_, _, rfl, e1, S1⟩ ?_ ?_⟩
    · rintro i σ2 H2 hi ⟨v1, v2, rfl, hr2, S2⟩
      have iw : i < ws.length := by rw [hw.len]; exact hi
      have ic : i < cs.length := by rw [hc.len]; exact hi
      have e0 : (0 : Int) + (i : Int) = (i : Int) := Int.zero_add _
      have at1 : atI (cs.map V.int) (i : Int) = some (V.int cs[i]) := atI_nat (by rw [List.getElem?_map, List.getElem?_eq_getElem ic]; rfl)
      have at2 : atI (ws.map V.int) (i : Int) = some (V.int ws[i]) := atI_nat (by rw [List.getElem?_map, List.getElem?_eq_getElem iw]; rfl)
      have w1 := hw.one ws[i] (List.getElem_mem _)
      have w2 := hw.top ws[i] (List.getElem_mem _)
      have hsn : ((shL ws cs b).take (i + 1)).map V.int = ((shL ws cs b).take i).map V.int ++ [V.int (ws[i] * giv cs[i] b)] := by
        rw [take_snocI (shL_at iw ic), List.map_append]
        rfl
      have hlt : (((shL ws cs b).take i).map V.int).length < sizeLine := line_lt (by rw [List.length_map, List.length_take]; omega)
      rw [e0]
      walk_at "rd"
      refine i_ixL (S2.seq hcq) at1 ?_
      walk_at "rd"
      unfold giv at hsn
      refine iteD (fun hb => ?_) (fun hb => ?_)
      · rw [if_neg (by omega)] at hsn
        walk_at "rd"
        refine i_ixL (S2.seq hcq) at1 ?_
        walk_at "rd"
        refine i_tyL hr2 ?_
        walk_at "rd"
        refine i_ixL (S2.seq hq) at2 ?_
        walk_at "rd"
        refine i_append hr2 hlt ?_
        walk_at "rd"
        exact ⟨_, _, rfl, by rw [upd_same, hsn], fun b' o e => upd_oth (ne_of_none e hr0) (S2 b' o e)⟩
      · rw [if_pos (by omega)] at hsn
        walk_at "rd"
        refine i_tyL hr2 ?_
        walk_at "rd"
        refine i_ixL (S2.seq hq) at2 ?_
        walk_at "rd"
        refine i_append hr2 hlt ?_
        walk_at "rd"
        exact ⟨_, _, rfl, by rw [upd_same, hsn], fun b' o e => upd_oth (ne_of_none e hr0) (S2 b' o e)⟩
    · rintro σ2 H2 ⟨v1, v2, rfl, hr2, S2⟩
      rw [List.take_of_length_le (by omega)] at hr2
      have ek : lrn ws cs b = (grL (shL ws cs b)).map fun v => v / 2 ^ tOf (grL (shL ws cs b)).sum := rfl
      rw [ek] at k
      have gp := gr_pos (b := b) n1 hw hc
      have gh := gr_hi (b := b) n6 hw hc
      generalize shL ws cs b = sh at hr2 shl k gp gh
      have eg : grL sh = sh.map fun s => 31 * (n : Int) * s + sh.sum := by rw [← shl]; rfl
      walk_at "rd"
      refine ⟨r, rfl, ⟨_, SqL.of hr2⟩, fun G hG => ?_⟩
      refine compF_listM (onI fun s => 31 * (n : Int) * s + sh.sum) (SqL.of hr2) hG (fun i y H3 hy S3 hG3 => ?_) (fun H3 S3 hG3 => ?_)
      · obtain ⟨s', rfl, _, _, il⟩ := getInt hy
        show tOp _ _ _ (some (V.int s') :: takeS [4, 3] [some (V.ref q), some (V.ref c), some (V.int b), some (V.int n), some (V.ref r), v1, v2, none, none, none]) H3 _
        walk_at "rd"
        refine ⟨r, _, rfl, SqL.of (S3 _ _ hr2), ?_⟩
        walk_at "rd"
        exact Mp.done hG (line_lt (by rw [List.length_map, shl]; omega)) hy S3 hG3 rfl
      · rw [onI_map, ← eg] at hG3
        have grl : (grL sh).length = n := by rw [grL_len, shl]
        generalize grL sh = gr at hG3 k grl gp gh
        have ph := pow_hi gp gh
        walk_at "rd"
        refine ⟨G, _, rfl, SqL.of hG3, ?_⟩
        walk_at "rd"
        refine ⟨fun m σ4 H4 => ∃ i : Nat, i + m = tOf gr.sum ∧ H4 = H3 ∧ σ4 = [some (.ref q), some (.ref c), some (.int b), some (.int n), some (.ref r), v1, v2, some (.ref G), some (.int (gr.sum / 2 ^ i)), some (.int (2 ^ i))], ⟨tOf gr.sum, 0, by omega, rfl, by rw [Int.pow_zero, Int.ediv_one]⟩, ?_⟩
        rintro m σ4 H4 ⟨i, him, rfl, rfl⟩
        walk_at "rd"
        refine iteD (fun hb => ?_) (fun hb => ?_)
        · have hlt := (tOf_lt gp (by omega)).mp hb
          refine ⟨fun σ5 H5 => H5 = H4 ∧ σ5 = [some (.ref q), some (.ref c), some (.int b), some (.int n), some (.ref r), v1, v2, some (.ref G), some (.int (gr.sum / 2 ^ (i + 1))), some (.int (2 ^ (i + 1)))], ?_, ?_⟩
          · rintro σ5 H5 ⟨rfl, rfl⟩
            exact ⟨m - 1, by omega, i + 1, by omega, rfl, rfl⟩
          · walk_at "rd"
            refine ⟨rfl, ?_⟩
            rw [half_pow, Int.pow_succ, Int.mul_comm (2 ^ i) 2]
        · have ei : i = tOf gr.sum := by
            rcases Nat.lt_or_ge i (tOf gr.sum) with z | z
            · exact absurd ((tOf_lt gp (by omega)).mpr z) hb
            · omega
          subst ei
          have tp := two_pos (tOf gr.sum)
          generalize (2 : Int) ^ tOf gr.sum = T at k ph tp ⊢
          walk_at "rd"
          refine ⟨G, rfl, ⟨_, SqL.of hG3⟩, fun Z hZ => ?_⟩
          refine compF_listM (onI fun v => v / T) (SqL.of hG3) hZ (fun i y H5 hy S5 hZ5 => ?_) (fun H5 S5 hZ5 => ?_)
          · obtain ⟨s', rfl, _, _, il⟩ := getInt hy
            show tOp _ _ _ (some (V.int s') :: takeS [9] [some (V.ref q), some (V.ref c), some (V.int b), some (V.int n), some (V.ref r), v1, v2, some (.ref G), some (.int (gr.sum / T)), some (.int T)]) H5 _
            walk_at "rd"
            exact Mp.done hZ (line_lt (by rw [List.length_map, grl]; omega)) hy S5 hZ5 rfl
          · rw [onI_map] at hZ5
            exact k Z _ ((S2.trans S3).free hZ) hZ5 (S2.trans (S3.trans S5))
--%% _law_context
theorem sc__law_context : FnScope ["_law_places", "_law_signs", "_law_node", "_law_seen_here"] ["_law_places", "_law_signs", "_law_node"] (defScope s__law_context) := scMk (by decide +kernel)
def sp_lctx (K : PySem.W.Frag) : Sp := fun vs H Q _ => ∃ (t l : Addr) (ps sg : List Int) (nd : Int), vs = [.ref t, .ref l, .int nd] ∧ SqT K H t (ps.map V.int) ∧ (∀ p ∈ ps, 1 ≤ p ∧ p ≤ 8) ∧ ps.length ≤ 4 ∧ H l = some (.lst (sg.map V.int)) ∧ sg.length ≤ 1000 ∧
  ∀ r H', H r = none → H' r = some (.tup ((ctx ps sg nd).map V.int)) → Same H H' → Q (.ref r) H'
theorem ok__law_context (T : Txt K mg a) : FnOk P w K mg base CX0 1 a.f__law_context a.d__law_context ["_law_places", "_law_signs", "_law_node"] (sp_lctx K) := by
  refine T.y__law_context.F.ok sc__law_context (fun vs H Q E h => ?_) (fun cdv A outer s H vs Q E hr h => ?_)
  · obtain ⟨t, l, ps, sg, nd, rfl, _⟩ := h
    rfl
  · obtain ⟨t, l, ps, sg, nd, rfl, ht, hps, hpl, hl, hsz, k⟩ := h
    refine blk_cons (ps_set (i := 3) sc__law_context.nd rfl (Or.inr rfl) (pe_op op_cat (pe_op op_rep (pe_lst (pa_cons pe_int pa_nil (star_ok rfl))) pe_int) (pv 1))) ?_
    refine ⟨_, (pss_one (ps_ret (pe_callTy call_tuple_of rfl T.z_tuple (by decide +kernel) (pa_cons (pe_op op_cat (pe_compF (js := [3]) (ys := ["_law_seen_here"]) rfl (pi_tup (pv 0)) (fun C s2 H2 fp => (pe_ix (r := rIxL K) ix_list (pv 1) (pe_op op_sub (pe_callB (r := rLenS K) call_lenS rfl T.z_len (by decide +kernel) (pa_cons (pv 1) pa_nil (star_ok rfl))) (pv 0)) (fun _ _ => rfl))) rfl rfl (hyc := (all_cons rfl all_nil)) (hrel := (all_cons rfl all_nil))) (pe_lst (pa_cons (pv 2) pa_nil (star_ok rfl)))) pa_nil (star_ok rfl))))), ?_⟩
    try dsimp only [cxOf]
    refine i_start (σ' := [some _, some _, some _, none]) rfl ?_
    walk_at "rd"
    refine ⟨by walk_at "len", fun q0 hq0 => ?_⟩
    with_reducible first | refine new_obj2 hq0 fun H0 S0 e0 => ?_ | refine new_obj hq0 fun H0 S0 e0 => ?_
    walk_at "rd"
    refine ⟨q0, 8, _, rfl, rfl, e0, by omega, by omega, line_le (by show 1 * (8 : Int).toNat ≤ 16000000; decide), fun q hq => ?_⟩
    with_reducible first | refine new_obj2 hq fun H1 S1 hq1 => ?_ | refine new_obj hq fun H1 S1 hq1 => ?_
    have S01 := S0.trans S1
    walk_at "rd"
    refine ⟨q, l, _, _, rfl, rfl, hq1, S01 _ _ hl, line_le (by rw [List.length_map]; show 8 + _ ≤ _; omega), fun c hc => ?_⟩
    have ec : (List.replicate (8 : Int).toNat [V.int 256]).flatten ++ sg.map V.int = (List.replicate 8 (256 : Int) ++ sg).map V.int := by rw [List.map_append]; rfl
    rw [ec]
    with_reducible first | refine new_obj2 hc fun H2 S2 hc2 => ?_ | refine new_obj hc fun H2 S2 hc2 => ?_
    have S12 := S01.trans S2
    walk_at "rd"
    refine ⟨t, rfl, ⟨_, S12.tup ht⟩, fun D hD => ?_⟩
    have hpz : (ps.map V.int).length < sizeLine := line_lt (by rw [List.length_map]; omega)
    refine compF_tupM (xs := ps.map V.int) (bkV sg) (S12.tup ht) hD (fun i y H3 hy S3 hD3 => ?_) (fun H3 S3 hD3 => ?_)
    · obtain ⟨p, rfl, hpm, _, _⟩ := getInt hy
      obtain ⟨p1, p8⟩ := hps p hpm
      have hc3 := S3 _ _ hc2
      walk_at "rd"
      refine i_lenS (SqL.of hc3) ?_
      walk_at "rd"
      refine i_ixL (SqL.of hc3) (back_some p1 p8) ?_
      exact Mp.done hD hpz hy S3 hD3 rfl
    · rw [bkV_map] at hD3
      walk_at "rd"
      refine ⟨by walk_at "len", fun n hn => ?_⟩
      with_reducible first | refine new_obj2 hn fun H4 S4 hn4 => ?_ | refine new_obj hn fun H4 S4 hn4 => ?_
      refine ⟨D, n, _, _, rfl, rfl, S4 _ _ hD3, hn4, line_le (by rw [List.length_map, List.length_map]; show _ + 1 ≤ _; omega), fun c2 hc2 => ?_⟩
      with_reducible first | refine new_obj2 hc2 fun H5 S5 hc5 => ?_ | refine new_obj hc2 fun H5 S5 hc5 => ?_
      refine ⟨c2, _, rfl, .inl ⟨SqL.of hc5, fun r hr0 => ?_⟩⟩
      have S := S12.trans (S3.trans (S4.trans S5))
      refine k r _ (S.free hr0) (upd_same.trans ?_) (S.trans (same_upd hr0))
      unfold ctx
      rw [List.map_append]
      rfl
--%% _law_slots
/-- the law's own slots: the dict of them, and what they hold -/
structure OwS (a : Ads) (H : Hp) (d : Addr) (n : Nat) (kd : Nat → Fin 3) (g : Nat → List Int → Slt) (xs : List NX) : Prop where
  dt : NDt H d xs
  sl : ∀ x ∈ xs, ∃ (i : Nat) (dq : Addr), i < n ∧ x.1.1 = (i : Int) ∧ H x.2.2 = some (oS a dq (g i x.1.2)) ∧ (g i x.1.2).ok ∧ (g i x.1.2).kind = kd i
  nw : ∀ i k, i < n → nAt xs ((i : Int), k) = none → g i k = kd0 (kd i)
  ij : ∀ x ∈ xs, ∀ y ∈ xs, x.2.2 = y.2.2 → x.1 = y.1
theorem nAt_mem {xs : List NX} {k : Int × List Int} {q : Addr} (h : nAt xs k = some q) : ∃ x ∈ xs, x.1 = k ∧ x.2.2 = q := by
  unfold nAt at h
  obtain ⟨x, hx, e⟩ := Option.map_eq_some_iff.mp h
  exact ⟨x, List.mem_of_find?_eq_some hx, of_decide_eq_true (p := x.1 = k) (by simpa using List.find?_some hx), e⟩
theorem nAt_no {xs : List NX} {k : Int × List Int} (h : nAt xs k = none) : ∀ x ∈ xs, x.1 ≠ k := fun x hx e => by
  unfold nAt at h
  have := List.find?_eq_none.mp (Option.map_eq_none_iff.mp h) x hx
  exact this (decide_eq_true e)
theorem nAt_snoc {xs : List NX} {k j : Int × List Int} {p q : Addr} (h : nAt xs k = none) : nAt (xs ++ [(k, p, q)]) j = if j = k then some q else nAt xs j := by
  unfold nAt at h ⊢
  rw [List.find?_append]
  by_cases e : j = k
  · rw [if_pos e, e, Option.map_eq_none_iff.mp h]
    simp
  · rw [if_neg e]
    cases List.find? (fun x => decide (x.1 = j)) xs with
    | some z => rfl
    | none => simp; exact fun z => e z.symm
theorem nky_mv {H H' : Hp} {p : Addr} {k : Int × List Int} (h : NKy H p k) (f : ∀ c xs, H c = some (.tup xs) → H' c = some (.tup xs)) : NKy H' p k := let ⟨b, h1, h2⟩ := h; ⟨b, f _ _ h1, f _ _ h2⟩
section
variable {a : Ads} {H H' : Hp} {d : Addr} {n : Nat} {kd : Nat → Fin 3} {g : Nat → List Int → Slt} {xs : List NX}
/-- what lies elsewhere was changed -/
theorem OwS.fr (h : OwS a H d n kd g xs) {V : Addr → Prop} (f : ∀ c o, H c = some o → ¬ V c → H' c = some o) (vd : ¬ V d) (vt : ∀ c ys, H c = some (.tup ys) → ¬ V c) (vs : ∀ x ∈ xs, ¬ V x.2.2) : OwS a H' d n kd g xs := by
  refine ⟨⟨f _ _ h.dt.o vd, fun x hx => nky_mv (h.dt.k x hx) fun c ys e => f _ _ e (vt _ _ e), h.dt.n, h.dt.l⟩, fun x hx => ?_, h.nw, h.ij⟩
  obtain ⟨i, dq, hi, e1, e2, e3⟩ := h.sl x hx
  exact ⟨i, dq, hi, e1, f _ _ e2 (vs x hx), e3⟩
theorem OwS.same (h : OwS a H d n kd g xs) (S : Same H H') : OwS a H' d n kd g xs := h.fr (V := fun _ => False) (fun c o e _ => S c o e) id (fun _ _ _ => id) fun _ _ => id
theorem OwS.lst (h : OwS a H d n kd g xs) {r : Addr} {ys zs : List V} (hr : H r = some (.lst ys)) : OwS a (upd H r (.lst zs)) d n kd g xs := by
  refine h.fr (V := fun c => c = r) (fun c o e ne => upd_oth ne e) (fun z => ?_) (fun c ys' e z => ?_) fun x hx z => ?_
  · have e := h.dt.o; rw [z, hr] at e; cases e
  · rw [z, hr] at e; cases e
  · obtain ⟨i, dq, hi, e1, e2, e3⟩ := h.sl x hx
    obtain ⟨C, fs, eo⟩ := oS_ins a dq (g i x.1.2)
    rw [z, hr, eo] at e2
    cases e2
/-- the slot of a key -/
theorem OwS.at' (h : OwS a H d n kd g xs) {i : Nat} {k : List Int} {q : Addr} (hq : nAt xs ((i : Int), k) = some q) : ∃ dq, H q = some (oS a dq (g i k)) ∧ (g i k).ok ∧ (g i k).kind = kd i := by
  obtain ⟨x, hx, e, rfl⟩ := nAt_mem hq
  obtain ⟨j, dq, hj, e1, e2⟩ := h.sl x hx
  rw [e] at e1 e2
  have e1 : (i : Int) = (j : Int) := e1
  obtain rfl : i = j := by omega
  exact ⟨dq, e2⟩
/-- a new slot -/
theorem OwS.put (h : OwS a H d n kd g xs) {i : Nat} {k : List Int} {p q dq : Addr} (hi : i < n) (hk : NKy H p ((i : Int), k)) (hn : nAt xs ((i : Int), k) = none) (hq : H q = some (oS a dq (kd0 (kd i)))) (hf : ∀ x ∈ xs, x.2.2 ≠ q) (hl : xs.length + 1 < sizeLine) :
    OwS a (upd H d (ND d (xs ++ [(((i : Int), k), p, q)]))) d n kd g (xs ++ [(((i : Int), k), p, q)]) := by
  have f : ∀ c o, H c = some o → c ≠ d → upd H d (ND d (xs ++ [(((i : Int), k), p, q)])) c = some o := fun c o e ne => upd_oth ne e
  have ft : ∀ c ys, H c = some (.tup ys) → upd H d (ND d (xs ++ [(((i : Int), k), p, q)])) c = some (.tup ys) := fun c ys e => f _ _ e (fun z => by rw [z, h.dt.o] at e; cases e)
  have fq : ∀ {c b : Addr} {s : Slt}, H c = some (oS a b s) → upd H d (ND d (xs ++ [(((i : Int), k), p, q)])) c = some (oS a b s) := fun {c b s} e => f _ _ e (fun z => by
    obtain ⟨C, fs, eo⟩ := oS_ins a b s
    rw [z, h.dt.o, eo] at e
    cases e)
  refine ⟨⟨upd_same, fun x hx => ?_, ?_, by rw [List.length_append]; exact hl⟩, fun x hx => ?_, fun j k' hj e => ?_, fun x hx y hy e => ?_⟩
  · rcases List.mem_append.mp hx with w | w
    · exact nky_mv (h.dt.k x w) ft
    · rw [List.mem_singleton.mp w]
      exact nky_mv hk ft
  · rw [List.map_append]
    refine List.nodup_append.mpr ⟨h.dt.n, List.nodup_cons.mpr ⟨List.not_mem_nil, List.nodup_nil⟩, fun y hy z hz e => ?_⟩
    obtain ⟨x, hx, rfl⟩ := List.mem_map.mp hy
    rw [List.mem_singleton.mp hz] at e
    exact nAt_no hn x hx e
  · rcases List.mem_append.mp hx with w | w
    · obtain ⟨j, b, hj, e1, e2, e3⟩ := h.sl x w
      exact ⟨j, b, hj, e1, fq e2, e3⟩
    · rw [List.mem_singleton.mp w]
      have e0 := h.nw i k hi hn
      show ∃ (j : Nat) (b : Addr), j < n ∧ (i : Int) = (j : Int) ∧ _ ∧ (g j k).ok ∧ (g j k).kind = kd j
      refine ⟨i, dq, hi, rfl, ?_, ?_, ?_⟩
      · show _ = some (oS a dq (g i k))
        rw [e0]
        exact fq hq
      · rw [e0]; exact kd0_ok _
      · rw [e0]; exact kind_kd0 _
  · rw [nAt_snoc hn] at e
    by_cases z : ((j : Int), k') = ((i : Int), k)
    · rw [if_pos z] at e
      cases e
    · rw [if_neg z] at e
      exact h.nw j k' hj e
  · rcases List.mem_append.mp hx with w | w <;> rcases List.mem_append.mp hy with v | v
    · exact h.ij x w y v e
    · rw [List.mem_singleton.mp v] at e
      exact absurd e (hf x w)
    · rw [List.mem_singleton.mp w] at e
      exact absurd e.symm (hf y v)
    · rw [List.mem_singleton.mp w, List.mem_singleton.mp v]
end
theorem sc__law_slots : FnScope ["_law_looks_here", "_law_slots_here", "_law_signs", "_law_node", "_law_found", "_law_k", "_law_key"] ["_law_looks_here", "_law_slots_here", "_law_signs", "_law_node"] (defScope s__law_slots) := scMk (by decide +kernel)
def sp_lslots (K : PySem.W.Frag) (a : Ads) : Sp := fun vs H Q _ => ∃ (L d l : Addr) (n : Nat) (lk tp : Nat → Addr) (kd : Nat → Fin 3) (ps : Nat → List Int) (g : Nat → List Int → Slt) (xs : List NX) (sg : List Int) (nd : Int), vs = [.ref L, .ref d, .ref l, .int nd] ∧ H L = some (.lst (refs lk n)) ∧ n ≤ 6 ∧ LkRow H n lk kd tp ps ∧ OwS a H d n kd g xs ∧ xs.length ≤ 100000 ∧ H l = some (.lst (sg.map V.int)) ∧ sg.length ≤ 1000 ∧
  ∀ (r : Addr) (sl : Nat → Addr) (ys : List NX) (H' : Hp), H r = none → H' r = some (.lst (refs sl n)) → OwS a H' d n kd g (xs ++ ys) → (∀ j, j < n → nAt (xs ++ ys) ((j : Int), ctx (ps j) sg nd) = some (sl j)) → (∀ y ∈ ys, H y.2.2 = none) → ys.length ≤ n → But d H H' → Q (.ref r) H'
theorem ok__law_slots (T : Txt K mg a) : FnOk P w K mg base CX0 4 a.f__law_slots a.d__law_slots ["_law_looks_here", "_law_slots_here", "_law_signs", "_law_node"] (sp_lslots K a) := by
  refine T.y__law_slots.F.ok sc__law_slots (fun vs H Q E h => ?_) (fun cdv A outer s H vs Q E hr h => ?_)
  · obtain ⟨L, d, l, n, lk, tp, kd, ps, g, xs, sg, nd, rfl, _⟩ := h
    rfl
  · obtain ⟨L, d, l, n, lk, tp, kd, ps, g, xs, sg, nd, rfl, hL, n6, hR, hO, hx, hl, hsz, k⟩ := h
    refine blk_cons (ps_set (i := 4) sc__law_slots.nd rfl (Or.inl rfl) (pe_lst pa_nil)) ?_
    refine blk_cons (ps_for PassesOwn.never rfl (pi_range1 rfl T.z_range (pa_cons (pe_callB call_len_seq rfl T.z_len (by decide +kernel) (pa_cons (pv 0) pa_nil (star_ok rfl))) pa_nil (star_ok rfl))) (pg_name (i := 5) sc__law_slots.nd rfl (Or.inl rfl)) (pss_cons (ps_set (i := 6) sc__law_slots.nd rfl (Or.inl rfl) (pe_tup (pa_cons (pv 5) (pa_cons (pe_call (ok__law_context T) (hr.mono (by decide)) rfl T.y__law_context.m T.y__law_context.F.kp T.y__law_context.B .nil pass0 (pa_cons (pe_ix ix_tup (pe_ix ix_list (pv 0) (pv 5) (fun _ _ => rfl)) pe_int (fun _ _ => rfl)) (pa_cons (pv 2) (pa_cons (pv 3) pa_nil (star_ok rfl)) (star_ok rfl)) (star_ok rfl))) pa_nil (star_ok rfl)) (star_ok rfl)))) (pss_cons (ps_mid (ps_if (pt_cmp (pc_ndnotin hr.units (pv 6) (pv 1))) (pss_one (ps_ndput hr.units (pv 1) (pv 6) (pe_call (ok_slot_of T) (hr.mono (by decide)) rfl T.y_slot_of.m T.y_slot_of.F.kp T.y_slot_of.B .nil pass0 (pa_cons (pe_ix ix_tup (pe_ix ix_list (pv 0) (pv 5) (fun _ _ => rfl)) pe_int (fun _ _ => rfl)) pa_nil (star_ok rfl))) rfl)) pss_nil)) (pss_one (ps_expr (pe_bm PySem.F.plainAttrs_list PySem.F.slot_list_append PySem.F.type_list_append mt_append (pv 4) (pa_cons (pe_ndget hr.units (pv 1) (pv 6) (fun _ _ => rfl)) pa_nil (star_ok rfl)))))))) ?_
    refine ⟨_, (pss_one (ps_ret (pv 4))), ?_⟩
    try dsimp only [cxOf]
    refine i_start (σ' := [some _, some _, some _, some _, none, none, none]) rfl ?_
    walk_at "rd"
    refine ⟨by walk_at "len", fun r hr0 => ?_⟩
    with_reducible first | refine new_obj2 hr0 fun H1 S1 e1 => ?_ | refine new_obj hr0 fun H1 S1 e1 => ?_
    walk_at "rd"
    refine i_len (SqL.of (S1 _ _ hL)) ?_
    rw [refs_len]
    have nrd : d ≠ r := ne_of_none hO.dt.o hr0
    walk_at "rd"
    refine ⟨_, rfl, by omega, by omega, for_range (n := n) (fun i σ2 G => ∃ (v1 v2 : Option V) (sl : Nat → Addr) (ys : List NX), σ2 = [some (.ref L), some (.ref d), some (.ref l), some (.int nd), some (.ref r), v1, v2] ∧ G r = some (.lst (refs sl i)) ∧ OwS a G d n kd g (xs ++ ys) ∧ (∀ j, j < i → nAt (xs ++ ys) ((j : Int), ctx (ps j) sg nd) = some (sl j)) ∧ (∀ y ∈ ys, H y.2.2 = none) ∧ ys.length ≤ i ∧ But d H G)
      ⟨_, _, fun _ => 0, [], rfl, e1, by rw [List.append_nil]; exact hO.same S1, fun j hj => absurd hj (Nat.not_lt_zero j), fun _ z => (nomatch z), Nat.le_refl _, But.of S1⟩ ?_ ?_⟩
    · rintro i σ2 G hi ⟨v1, v2, sl, ys, rfl, hr2, gO, gA, gN, gl, B⟩
      rw [Int.zero_add]
      have nLd : L ≠ d := fun z => by have e := hO.dt.o; rw [← z, hL] at e; cases e
      have nld : l ≠ d := fun z => by have e := hO.dt.o; rw [← z, hl] at e; cases e
      have hLG := B _ _ hL nLd
      have hlG := B _ _ hl nld
      obtain ⟨_, _, _, p18, pl4⟩ := (hR i hi).at' (K := K)
      obtain ⟨lk', elk, h1, h2, h3⟩ := hR i hi
      cases elk
      have nt : ∀ {c : Addr} {zs : List V}, H c = some (.tup zs) → c ≠ d := fun {c zs} e z => by have e' := hO.dt.o; rw [← z, e] at e'; cases e'
      have h1G := B _ _ h1 (nt h1)
      have h2G := B _ _ h2 (nt h2)
      have aL : atI (refs lk n) (i : Int) = some (V.ref (lk i)) := atI_nat (by unfold refs; rw [List.getElem?_map, List.getElem?_range hi]; rfl)
      walk_at "rd"
      refine i_ixL (SqL.of hLG) aL ?_
      walk_at "rd"
      refine i_ixT (SqT.of h1G) (atI_nat (j := 1) rfl) ?_
      walk_at "rd"
      refine ⟨tp i, l, ps i, sg, nd, rfl, SqT.of h2G, p18, pl4, hlG, hsz, fun kt G1 hkt0 hkt1 S1' => ?_⟩
      walk_at "rd"
      refine ⟨by walk_at "len", fun kp hkp0 => ?_⟩
      with_reducible first | refine new_obj2 hkp0 fun G2 S2 hkp2 => ?_ | refine new_obj hkp0 fun G2 S2 hkp2 => ?_
      have SG := S1'.trans S2
      have gO2 := gO.same SG
      have hr22 := SG _ _ hr2
      have ky2 : NKy G2 kp ((i : Int), ctx (ps i) sg nd) := ⟨kt, hkp2, S2 _ _ hkt1⟩
      have B2 : But d H G2 := B.trans (But.of SG)
      generalize hkey : ctx (ps i) sg nd = key at ky2
      walk_at "rd"
      refine i_mid (fun σ' G' => σ' = [some (.ref L), some (.ref d), some (.ref l), some (.int nd), some (.ref r), some (.int i), some (.ref kp)] ∧ ∃ (q : Addr) (zs : List NX), OwS a G' d n kd g (xs ++ zs) ∧ NKy G' kp ((i : Int), key) ∧ nAt (xs ++ zs) ((i : Int), key) = some q ∧ (∀ j x, nAt (xs ++ ys) j = some x → nAt (xs ++ zs) j = some x) ∧ (∀ y ∈ zs, H y.2.2 = none) ∧ zs.length ≤ i + 1 ∧ But d H G' ∧ G' r = some (.lst (refs sl i))) ?_ ?_
      · walk_at "rd"
        refine ⟨d, xs ++ ys, kp, ((i : Int), key), rfl, rfl, gO2.dt, ky2, ?_⟩
        cases hA : nAt (xs ++ ys) ((i : Int), key) with
        | some q =>
          walk_at "rd"
          refine iteF ?_
          walk_at "rd"
          exact ⟨rfl, q, ys, gO2, ky2, hA, fun _ _ e => e, gN, by omega, B2, hr22⟩
        | none =>
          walk_at "rd"
          refine iteT ?_
          walk_at "rd"
          refine i_ixL (SqL.of (SG _ _ hLG)) aL ?_
          walk_at "rd"
          refine i_ixT (SqT.of (SG _ _ h1G)) (atI_nat (j := 0) rfl) ?_
          walk_at "rd"
          refine ⟨kd i, rfl, fun q dq G3 hq0 hq3 S3 => ?_⟩
          have ky3 := nky_mv ky2 fun c ys e => S3 _ _ e
          have gO3 := gO2.same S3
          walk_at "rd"
          refine ⟨d, xs ++ ys, kp, ((i : Int), key), q, rfl, rfl, rfl, gO3.dt, ky3, hA, ?_⟩
          have hq2 : G q = none := SG.free hq0
          have nq : ∀ x ∈ xs ++ ys, x.2.2 ≠ q := fun x hx => by
            obtain ⟨j, b, _, _, e, _⟩ := gO2.sl x hx
            exact ne_of_none e hq0
          have nrd : r ≠ d := fun z => nrd z.symm
          walk_at "rd"
          refine ⟨rfl, q, ys ++ [(((i : Int), key), kp, q)], ?_, nky_mv ky3 fun c zs e => upd_oth (fun z => by rw [z, gO3.dt.o] at e; cases e) e, ?_, fun j x e => ?_, fun y hy => ?_, by rw [List.length_append]; show _ + 1 ≤ _; omega, fun c o e ne => upd_oth ne (S3 _ _ (B2 _ _ e ne)), upd_oth nrd (S3 _ _ hr22)⟩
          · rw [← List.append_assoc]
            exact gO3.put hi ky3 hA hq3 nq (line_lt (by rw [List.length_append]; omega))
          · rw [← List.append_assoc, nAt_snoc hA, if_pos rfl]
          · rw [← List.append_assoc, nAt_snoc hA, if_neg (fun z => by rw [z, hA] at e; cases e)]
            exact e
          · rcases List.mem_append.mp hy with w | w
            · exact gN y w
            · rw [List.mem_singleton.mp w]
              show H q = none
              cases e : H q with
              | none => rfl
              | some o =>
                by_cases z : q = d
                · rw [z, gO.dt.o] at hq2
                  cases hq2
                · rw [B _ _ e z] at hq2
                  cases hq2
      · rintro σ' G' ⟨rfl, q, zs, gO3, ky3, hA3, up3, gN3, gl3, B3, hr3⟩
        walk_at "rd"
        refine i_tyL hr3 ?_
        walk_at "rd"
        refine ⟨d, xs ++ zs, kp, ((i : Int), key), q, rfl, rfl, gO3.dt, ky3, hA3, ?_⟩
        walk_at "rd"
        refine i_append hr3 (line_lt (by rw [refs_len]; omega)) ?_
        walk_at "rd"
        refine ⟨_, _, upN sl i q, zs, rfl, ?_, gO3.lst hr3, fun j hj => ?_, gN3, gl3, ?_⟩
        · rw [upd_same, refs_snoc, upN_at]
          congr 3
          exact refs_congr fun j hj => (upN_lt hj).symm
        · by_cases z : j = i
          · subst z
            rw [upN_at, hkey]
            exact hA3
          · rw [upN_lt (by omega)]
            exact up3 _ _ (gA j (by omega))
        · exact fun b o e ne => upd_oth (ne_of_none e hr0) (B3 _ _ e ne)
    · rintro σ2 G ⟨v1, v2, sl, ys, rfl, hr2, gO, gA, gN, gl, B⟩
      walk_at "rd"
      exact k r sl ys G hr0 hr2 gO gA gN gl B
--%% _law_mixed
theorem sc__law_mixed : FnScope ["_law_weights", "_law_chances", "_law_total", "_law_k"] ["_law_weights", "_law_chances"] (defScope s__law_mixed) := scMk (by decide +kernel)
def sp_lmixed (K : PySem.W.Frag) : Sp := fun vs H Q _ => ∃ (q c : Addr) (ws cs : List Int) (n : Nat), vs = [.ref q, .ref c] ∧ 1 ≤ n ∧ n ≤ 6 ∧ WOk n ws ∧ COk n cs ∧ SqL K H q (ws.map V.int) ∧ SqL K H c (cs.map V.int) ∧ Q (.int (mixI ws cs)) H
theorem ok__law_mixed (T : Txt K mg a) : FnOk P w K mg base CX0 1 a.f__law_mixed a.d__law_mixed ["_law_weights", "_law_chances"] (sp_lmixed K) := by
  refine T.y__law_mixed.F.ok sc__law_mixed (fun vs H Q E h => ?_) (fun cdv A outer s H vs Q E hr h => ?_)
  · obtain ⟨q, c, ws, cs, n, rfl, _⟩ := h
    rfl
  · obtain ⟨q, c, ws, cs, n, rfl, n1, n6, hw, hc, hq, hcq, k⟩ := h
    refine ⟨_, (pss_cons (ps_set (i := 2) sc__law_mixed.nd rfl (Or.inl rfl) pe_int) (pss_cons (ps_for PassesOwn.never rfl (pi_range1 rfl T.z_range (pa_cons (pe_callB call_len_seq rfl T.z_len (by decide +kernel) (pa_cons (pv 0) pa_nil (star_ok rfl))) pa_nil (star_ok rfl))) (pg_name (i := 3) sc__law_mixed.nd rfl (Or.inl rfl)) (pss_one (ps_set (i := 2) sc__law_mixed.nd rfl (Or.inl rfl) (pe_op op_add (pv 2) (pe_op op_mul (pe_ix ix_list (pv 0) (pv 3) (fun _ _ => rfl)) (pe_ix ix_list (pv 1) (pv 3) (fun _ _ => rfl))))))) (pss_one (ps_ret (pe_op op_fdivB (pv 2) (pe_callB (call_sum rfl) rfl T.z_sum (by decide +kernel) (pa_cons (pv 0) pa_nil (star_ok rfl)))))))), ?_⟩
    try dsimp only [cxOf]
    refine i_start (σ' := [some _, some _, none, none]) rfl ?_
    walk_at "rd"
    refine i_len hq ?_
    rw [List.length_map, hw.len]
    have zl : (List.zipWith (fun w c => w * c) ws cs).length = n := by rw [List.length_zipWith, hw.len, hc.len]; omega
    refine ⟨_, rfl, by omega, by omega, for_range (n := n) (fun i σ2 H2 => H2 = H ∧ ∃ v1 : Option V, σ2 = [some (.ref q), some (.ref c), some (.int ((List.zipWith (fun w c => w * c) ws cs).take i).sum), v1]) ⟨rfl, _, rfl⟩ ?_ ?_⟩
    · rintro i σ2 H2 hi ⟨e, v1, rfl⟩
      subst e
      have iw : i < ws.length := by rw [hw.len]; exact hi
      have ic : i < cs.length := by rw [hc.len]; exact hi
      have e0 : (0 : Int) + (i : Int) = (i : Int) := Int.zero_add _
      have at1 : atI (cs.map V.int) (i : Int) = some (V.int cs[i]) := atI_nat (by rw [List.getElem?_map, List.getElem?_eq_getElem ic]; rfl)
      have at2 : atI (ws.map V.int) (i : Int) = some (V.int ws[i]) := atI_nat (by rw [List.getElem?_map, List.getElem?_eq_getElem iw]; rfl)
      have w1 := hw.one ws[i] (List.getElem_mem _)
      have w2 := hw.top ws[i] (List.getElem_mem _)
      have hsn := sum_take_snoc (l := List.zipWith (fun w c => w * c) ws cs) (i := i) (q := ws[i] * cs[i]) (by rw [List.getElem?_eq_getElem (by rw [zl]; exact hi), List.getElem_zipWith])
      rw [e0]
      walk_at "rd"
      refine i_ixL hq at2 ?_
      walk_at "rd"
      refine i_ixL hcq at1 ?_
      walk_at "rd"
      exact ⟨rfl, _, by rw [hsn]⟩
    · rintro σ2 H2 ⟨e, v1, rfl⟩
      subst e
      rw [List.take_of_length_le (by omega)]
      have p1 := hw.pos n1
      have p2 := hw.small n6
      walk_at "rd"
      refine ⟨q, _, rfl, hq, ?_⟩
      walk_at "rd"
      exact k
--%% _law_seen
theorem nAt_of : ∀ {xs : List NX}, (xs.map (·.1)).Nodup → ∀ {x : NX}, x ∈ xs → nAt xs x.1 = some x.2.2
  | y :: r, hn, x, hx => by
    rw [List.map_cons, List.nodup_cons] at hn
    unfold nAt
    rw [List.find?_cons]
    rcases List.mem_cons.mp hx with e | hx
    · rw [e, decide_eq_true rfl]
      rfl
    · have ne : ¬ y.1 = x.1 := fun z => hn.1 (z ▸ List.mem_map.mpr ⟨x, hx, rfl⟩)
      rw [decide_eq_false ne]
      exact nAt_of hn.2 hx
theorem OwS.told {a : Ads} {H H' : Hp} {d q dq : Addr} {n i : Nat} {kd : Nat → Fin 3} {g : Nat → List Int → Slt} {xs : List NX} {k : List Int} {b : Int} (h : OwS a H d n kd g xs) (hq : nAt xs ((i : Int), k) = some q) (b0 : 0 ≤ b) (b1 : b ≤ 1)
    (h3 : H' q = some (oS a dq ((g i k).see b))) (B : But q H H') : OwS a H' d n kd (fun j k' => if j = i ∧ k' = k then (g i k).see b else g j k') xs := by
  obtain ⟨dq0, e0, ok0, kk0⟩ := h.at' hq
  obtain ⟨x0, hx0, ex0, eq0⟩ := nAt_mem hq
  obtain ⟨C, fs, eo⟩ := oS_ins a dq0 (g i k)
  refine ⟨⟨B _ _ h.dt.o (fun z => ?_), fun x hx => nky_mv (h.dt.k x hx) fun c ys e => B _ _ e (fun z => ?_), h.dt.n, h.dt.l⟩, fun x hx => ?_, fun j k' hj e => ?_, h.ij⟩
  · have e := h.dt.o; rw [z, e0, eo] at e; cases e
  · rw [z, e0, eo] at e; cases e
  · obtain ⟨j, b', hj, e1, e2, e3, e4⟩ := h.sl x hx
    by_cases z : x.1 = ((i : Int), k)
    · have zx := nAt_of h.dt.n hx
      rw [z, hq] at zx
      have zi : j = i := by rw [z] at e1; have : (i : Int) = (j : Int) := e1; omega
      have zk : x.1.2 = k := by rw [z]
      refine ⟨j, dq, hj, e1, ?_⟩
      rw [if_pos ⟨zi, zk⟩, ← Option.some.inj zx]
      exact ⟨h3, Slt.see_ok ok0 b0 b1, by rw [kind_see, kk0, zi]⟩
    · refine ⟨j, b', hj, e1, ?_⟩
      rw [if_neg (fun w => z (Prod.ext (by rw [e1, w.1]) w.2))]
      exact ⟨B _ _ e2 (fun w => z ((h.ij x hx x0 hx0 (w.trans eq0.symm)).trans ex0)), e3, e4⟩
  · rw [if_neg (fun w => by rw [w.1, w.2, hq] at e; cases e)]
    exact h.nw j k' hj e
theorem OwS.congr {a : Ads} {H : Hp} {d : Addr} {n : Nat} {kd : Nat → Fin 3} {g g' : Nat → List Int → Slt} {xs : List NX} (h : OwS a H d n kd g xs) (e : ∀ i k, i < n → g i k = g' i k) : OwS a H d n kd g' xs := by
  refine ⟨h.dt, fun x hx => ?_, fun i k hi z => by rw [← e i k hi]; exact h.nw i k hi z, h.ij⟩
  obtain ⟨j, b', hj, e1, e2⟩ := h.sl x hx
  rw [e j _ hj] at e2
  exact ⟨j, b', hj, e1, e2⟩
/-- something else was changed -/
theorem FW.but {K : PySem.W.Frag} {a : Ads} {H H' : Hp} {p q : Addr} {n : Nat} {kd : Nat → Fin 3} {ps : Nat → List Int} {X : FX} {M : Nat} {W : Addr → Prop} {o : HO} (h : FW K a H p n kd ps X M W) (hq : H q = some o) (nq : ¬ W q) (hl : ∀ xs, o ≠ .lst xs) (ht : ∀ xs, o ≠ .tup xs) (hz : ∀ ob u, o ≠ .frz ob u) (B : But q H H') : FW K a H' p n kd ps X M W := by
  obtain ⟨A, f, O, m, hF, hm, hL, e1, e2, e3, e4, e5, e6⟩ := h
  have ow : ∀ c, Own p A O c → ¬ c = q := fun c w z => nq (z ▸ (e6 c).mpr w)
  have kl : ∀ {c : Addr} {xs : List V}, H c = some (.lst xs) → H' c = some (.lst xs) := fun {c xs} e => B _ _ e fun z => by rw [z, hq] at e; exact hl xs (Option.some.inj e)
  have kt : ∀ {c : Addr} {xs : List V}, H c = some (.tup xs) → H' c = some (.tup xs) := fun {c xs} e => B _ _ e fun z => by rw [z, hq] at e; exact ht xs (Option.some.inj e)
  refine ⟨A, f, O, m, hF.frame (O2 := fun c => c = q) (fun c o e no => B c o e no) (ow _ (.inl rfl)) (ow _ (.inr (.inl rfl))) (fun i hi => ow _ (.inr (.inr (.inl ⟨i, hi, rfl⟩)))) (fun i c hi w => ow _ (.inr (.inr (.inr (.inl ⟨i, hi, w⟩))))) (fun l xs _ e => kl e) (fun t xs e => ?_), hm, ⟨kl hL.1, hL.2.1, ?_⟩, e1, e2, e3, e4, e5, e6⟩
  · rcases e with (e | ⟨o', e⟩) | e
    · exact .inl (.inl (kt e))
    · exact .inl (.inr ⟨o', B _ _ e fun z => by rw [z, hq] at e; exact hz _ _ (Option.some.inj e)⟩)
    · exact .inr e
  · obtain ⟨tp, r⟩ := hL.2.2
    refine ⟨tp, fun i hi => ?_⟩
    obtain ⟨lk, z, h1, h2, h3⟩ := r i hi
    exact ⟨lk, z, kt h1, kt h2, h3⟩
/-- a foreteller and, apart from it, slots of the law's own that hold the same -/
structure LSt (K : PySem.W.Frag) (a : Ads) (H : Hp) (p d : Addr) (n : Nat) (kd : Nat → Fin 3) (ps : Nat → List Int) (X : FX) (M : Nat) (W : Addr → Prop) (xs : List NX) : Prop where
  fw : FW K a H p n kd ps X M W
  ow : OwS a H d n kd X.g xs
  ap : ∀ x ∈ xs, ¬ W x.2.2
  ln : xs.length ≤ M
def Zs (W : Addr → Prop) (d : Addr) (xs : List NX) : Addr → Prop := fun c => W c ∨ c = d ∨ ∃ x ∈ xs, c = x.2.2
theorem LSt.same {K : PySem.W.Frag} {a : Ads} {H H' : Hp} {p d : Addr} {n : Nat} {kd : Nat → Fin 3} {ps : Nat → List Int} {X : FX} {M : Nat} {W : Addr → Prop} {xs : List NX} (h : LSt K a H p d n kd ps X M W xs) (S : Same H H') : LSt K a H' p d n kd ps X M W xs := ⟨h.fw.same S, h.ow.same S, h.ap, h.ln⟩
theorem OwS.nl {a : Ads} {H : Hp} {d c : Addr} {n : Nat} {kd : Nat → Fin 3} {g : Nat → List Int → Slt} {xs : List NX} (h : OwS a H d n kd g xs) {W : Addr → Prop} {ys : List V} (hc : H c = some (.lst ys)) (nc : ¬ W c) : ¬ Zs W d xs c := fun z => by
  rcases z with z | z | ⟨x, hx, z⟩
  · exact nc z
  · have e := h.dt.o
    rw [← z, hc] at e
    cases e
  · obtain ⟨i, b, _, _, e, _⟩ := h.sl x hx
    obtain ⟨C, fs, eo⟩ := oS_ins a b (g i x.1.2)
    rw [← z, hc, eo] at e
    cases e
theorem LSt.nt {K : PySem.W.Frag} {a : Ads} {H : Hp} {p d c : Addr} {n : Nat} {kd : Nat → Fin 3} {ps : Nat → List Int} {X : FX} {M : Nat} {W : Addr → Prop} {xs : List NX} (h : LSt K a H p d n kd ps X M W xs) {ys : List V} (hc : H c = some (.tup ys)) : ¬ Zs W d xs c := fun z => by
  rcases z with z | z | ⟨x, hx, z⟩
  · exact h.fw.out hc rfl (fun ns z => nomatch z) z
  · have e := h.ow.dt.o
    rw [← z, hc] at e
    cases e
  · obtain ⟨i, b, _, _, e, _⟩ := h.ow.sl x hx
    obtain ⟨C, fs, eo⟩ := oS_ins a b (X.g i x.1.2)
    rw [← z, hc, eo] at e
    cases e
theorem TxAt.stop {ts : List Int} {k : Nat} {sg : List Int} {nd b : Int} (h : TxAt ts k sg nd) (hs : Sgs ts) (hb : (dec ts)[k]? = some b) : (k < 9 * ts.length ∧ (nd = 0 → b = 1)) ∨ (k = 9 * ts.length ∧ b = 0 ∧ nd = 0 ∧ sg = ts) := by
  obtain ⟨q, j, hk, hj, hsg, h⟩ := h
  rcases h with ⟨h0, hn, hq⟩ | ⟨h1, s, hs', hn⟩
  · subst h0
    rcases Nat.lt_or_ge q ts.length with hl | hl
    · refine .inl ⟨by omega, fun _ => ?_⟩
      have e := dec_get ts q 0 ts[q] (List.getElem?_eq_getElem hl) (by omega)
      rw [← hk, hb] at e
      simpa using e
    · have hq' : q = ts.length := by omega
      have e := dec_end ts
      rw [← hq', show 9 * q = k by omega, hb] at e
      exact .inr ⟨by omega, Option.some.inj e, hn, by rw [hsg, hq', List.take_length]⟩
  · have hl : q < ts.length := (List.getElem?_eq_some_iff.mp hs').1
    have := (nd9 (hs s (List.mem_of_getElem? hs')) h1 hj).1
    exact .inl ⟨by omega, fun z => by omega⟩
theorem cs_fa0 {A : FA} {n : Nat} {ps : Nat → List Int} (X : FX) (h1 : A.n = n) (h2 : A.ps = ps) : X.cs A = X.cs (fa0 n ps) := by
  unfold FX.cs FX.key
  rw [h1, h2]
  rfl
theorem Go.dict {W : Addr → Prop} {d : Addr} {xs ys : List NX} {H H' : Hp} {o : HO} (B : But d H H') (ho : H' d = some o) (hn : ∀ y ∈ ys, H y.2.2 = none) : Go (Zs W d xs) H H' (Zs W d (xs ++ ys)) := by
  refine ⟨fun c o e no => B _ _ e fun z => no (.inr (.inl z)), fun c w => ?_, fun c o' e => ?_⟩
  · rcases w with w | w | ⟨x, hx, w⟩
    · exact .inl (.inl w)
    · exact .inl (.inr (.inl w))
    · rcases List.mem_append.mp hx with v | v
      · exact .inl (.inr (.inr ⟨x, v, w⟩))
      · rw [w]
        exact .inr (hn x v)
  · by_cases z : c = d
    · rw [z]
      exact ⟨o, ho⟩
    · exact ⟨o', B _ _ e z⟩
theorem Go.seen {W W' : Addr → Prop} {d : Addr} {xs : List NX} {H H' : Hp} (h : Go W H H' W') : Go (Zs W d xs) H H' (Zs W' d xs) :=
  ⟨fun c o e no => h.fr _ _ e fun z => no (.inl z), fun c w => by
    rcases w with w | w
    · exact (h.nw c w).imp .inl id
    · exact .inl (.inr w), h.lv⟩
theorem Go.slot {W : Addr → Prop} {d q : Addr} {xs : List NX} {H H' : Hp} {o : HO} (hq : ∃ x ∈ xs, q = x.2.2) (B : But q H H') (ho : H' q = some o) : Go (Zs W d xs) H H' (Zs W d xs) := by
  refine ⟨fun c o e no => B _ _ e fun z => no (.inr (.inr (z ▸ hq))), fun c w => .inl w, fun c o' e => ?_⟩
  by_cases z : c = q
  · rw [z]
    exact ⟨o, ho⟩
  · exact ⟨o', B _ _ e z⟩
theorem sc__law_seen : FnScope ["_law_foreteller", "_law_looks_here", "_law_slots_here", "_law_weights", "_law_text_here", "_law_node", "_law_signs", "_law_bit", "_law_here", "_law_chances", "_law_told", "_law_slot"] ["_law_foreteller", "_law_looks_here", "_law_slots_here", "_law_weights", "_law_text_here"] (defScope s__law_seen) := scMk (by decide +kernel)
def sp_lseen (K : PySem.W.Frag) (a : Ads) : Sp := fun vs H Q _ => ∃ (p L d w t : Addr) (n : Nat) (lk tp : Nat → Addr) (kd : Nat → Fin 3) (ps : Nat → List Int) (X : FX) (M : Nat) (W : Addr → Prop) (xs : List NX) (ts : List Int), vs = [.ref p, .ref L, .ref d, .ref w, .ref t] ∧
  LSt K a H p d n kd ps X M W xs ∧ X.sg = [] ∧ X.nd = 0 ∧ H L = some (.lst (refs lk n)) ∧ LkRow H n lk kd tp ps ∧ H w = some (.lst (X.ws.map V.int)) ∧ ¬ W w ∧ H t = some (.lst (ts.map V.int)) ∧ ¬ W t ∧ Sgs ts ∧ ts.length ≤ 100 ∧ M + 6 * (9 * ts.length + 1) + 100 < 100000 ∧
  ∀ (r : Addr) (X' : FX) (W' : Addr → Prop) (xs' : List NX) (H' : Hp), LSt K a H' p d n kd ps X' (M + 6 * (9 * ts.length + 1)) W' xs' → X'.sg = [] → X'.nd = 0 → H' r = some (.lst (X'.ws.map V.int)) → ¬ W' r → Go (Zs W d xs) H H' (Zs W' d xs') → Q (.ref r) H'
theorem ok__law_seen (T : Txt K mg a) : FnOk P w K mg base CX0 7 a.f__law_seen a.d__law_seen ["_law_foreteller", "_law_looks_here", "_law_slots_here", "_law_weights", "_law_text_here"] (sp_lseen K a) := by
  refine T.y__law_seen.F.ok sc__law_seen (fun vs H Q E h => ?_) (fun cdv A outer s H vs Q E hr h => ?_)
  · obtain ⟨p, L, d, w, t, n, lk, tp, kd, ps, X, M, W, xs, ts, rfl, _⟩ := h
    rfl
  · obtain ⟨p, L, d, w, t, n, lk, tp, kd, ps, X, M, W, xs, ts, rfl, hS, hsg, hnd, hL, hR, hw, nw, ht, nt, hts, htl, hM, k⟩ := h
    refine blk_cons (ps_set (i := 5) sc__law_seen.nd rfl (Or.inl rfl) pe_int) ?_
    refine blk_cons (ps_set (i := 6) sc__law_seen.nd rfl (Or.inl rfl) (pe_lst pa_nil)) ?_
    refine blk_cons (ps_for PassesOwn.never rfl (pi_list (pe_call (ok__law_bits T) (hr.mono (by decide)) rfl T.y__law_bits.m T.y__law_bits.F.kp T.y__law_bits.B .nil pass0 (pa_cons (pv 4) pa_nil (star_ok rfl)))) (pg_name (i := 7) sc__law_seen.nd rfl (Or.inl rfl)) (pss_cons (ps_set (i := 8) sc__law_seen.nd rfl (Or.inl rfl) (pe_call (ok__law_slots T) (hr.mono (by decide)) rfl T.y__law_slots.m T.y__law_slots.F.kp T.y__law_slots.B .nil pass0 (pa_cons (pv 1) (pa_cons (pv 2) (pa_cons (pv 6) (pa_cons (pv 5) pa_nil (star_ok rfl)) (star_ok rfl)) (star_ok rfl)) (star_ok rfl)))) (pss_cons (ps_compF (i := 9) (js := []) (ys := []) sc__law_seen.nd rfl rfl rfl (pi_list (pv 8)) (fun C s2 H2 fp => (pe_alt (pe_meth0 (pv 0) T.cl_Even T.y_Even_chance.m (ok_Even_chance T) (hr.mono (by decide)) T.y_Even_chance.B .nil pass0) (pe_alt (pe_meth0 (pv 0) T.cl_Quick T.y_Quick_chance.m (ok_Quick_chance T) (hr.mono (by decide)) T.y_Quick_chance.B .nil pass0) (pe_meth0 (pv 0) T.cl_Run T.y_Run_chance.m (ok_Run_chance T) (hr.mono (by decide)) T.y_Run_chance.B .nil pass0)))) rfl rfl (hyc := all_nil) (hrel := all_nil)) (pss_cons (ps_if (PW.pt (pw_or (pt_cmpR (op_neD hr.units) (pe_meth0 (pv 0) T.cl_Foreteller T.y_Foreteller_chances.m (ok_Foreteller_chances T) (hr.mono (by decide)) T.y_Foreteller_chances.B .nil pass0) (pv 9) (nomark _)) (pw_or1 (pt_cmpR op_ne (pe_meth0 (pv 0) T.cl_Foreteller T.y_Foreteller_chance.m (ok_Foreteller_chance T) (hr.mono (by decide)) T.y_Foreteller_chance.B .nil pass0) (pe_call (ok__law_mixed T) (hr.mono (by decide)) rfl T.y__law_mixed.m T.y__law_mixed.F.kp T.y__law_mixed.B .nil pass0 (pa_cons (pv 3) (pa_cons (pv 9) pa_nil (star_ok rfl)) (star_ok rfl))) (nomark _))))) (pss_one (ps_ret pe_non)) pss_nil) (pss_cons (ps_mid (ps_if (pt_cmpR op_eq (pv 5) pe_int (nomark _)) (pss_cons (ps_set (i := 10) sc__law_seen.nd rfl (Or.inl rfl) (pe_meth0 (pv 0) T.cl_Foreteller T.y_Foreteller_signs.m (ok_Foreteller_signs T) (hr.mono (by decide)) T.y_Foreteller_signs.B .nil pass0)) (pss_cons (ps_if (PW.pt (pw_or (pt_not (pt_val (pe_callB call_isinst rfl T.z_isinstance (by decide +kernel) (pa_cons (pv 10) (pa_cons (pe_bty (T := "list") rfl T.z_list (by decide +kernel)) pa_nil (star_ok rfl)) (star_ok rfl))))) (pw_or1 (pt_cmpR (op_neD hr.units) (pv 10) (pv 6) (nomark _))))) (pss_one (ps_ret pe_non)) pss_nil) (pss_one (ps_expr (pe_bm PySem.F.plainAttrs_list PySem.F.slot_list_append PySem.F.type_list_append mt_append (pv 10) (pa_cons pe_int pa_nil (star_ok rfl))))))) pss_nil)) (pss_cons (ps_expr (pe_meth (pv 0) T.cl_Foreteller T.y_Foreteller_see.m (ok_Foreteller_see T) (hr.mono (by decide)) T.y_Foreteller_see.B .nil pass0 (pa_cons (pv 7) pa_nil (star_ok rfl)))) (pss_cons (ps_for PassesOwn.never rfl (pi_list (pv 8)) (pg_name (i := 11) sc__law_seen.nd rfl (Or.inl rfl)) (pss_one (ps_expr (pe_alt (pe_methE (pv 11) T.cl_Even T.y_Even_seen.m (ok_Even_seen T) (hr.mono (by decide)) T.y_Even_seen.B .nil catch_no (pa_cons (pv 7) pa_nil (star_ok rfl))) (pe_alt (pe_methE (pv 11) T.cl_Quick T.y_Quick_seen.m (ok_Quick_seen T) (hr.mono (by decide)) T.y_Quick_seen.B .nil catch_no (pa_cons (pv 7) pa_nil (star_ok rfl))) (pe_methE (pv 11) T.cl_Run T.y_Run_seen.m (ok_Run_seen T) (hr.mono (by decide)) T.y_Run_seen.B .nil catch_no (pa_cons (pv 7) pa_nil (star_ok rfl)))))))) (pss_cons (ps_set (i := 3) sc__law_seen.nd rfl (Or.inl rfl) (pe_call (ok__law_learnt T) (hr.mono (by decide)) rfl T.y__law_learnt.m T.y__law_learnt.F.kp T.y__law_learnt.B .nil pass0 (pa_cons (pv 3) (pa_cons (pv 9) (pa_cons (pv 7) pa_nil (star_ok rfl)) (star_ok rfl)) (star_ok rfl)))) (pss_one (ps_if (pt_cmpR op_gt (pv 5) pe_int (nomark _)) (pss_cons (ps_set (i := 6) sc__law_seen.nd rfl (Or.inl rfl) (pe_op op_cat (pv 6) (pe_lst (pa_cons (pe_op op_sub (pe_op op_add (pe_op op_mul pe_int (pv 5)) (pv 7)) pe_int) pa_nil (star_ok rfl))))) (pss_one (ps_set (i := 5) sc__law_seen.nd rfl (Or.inl rfl) pe_int))) (pss_one (ps_if (pt_cmpR op_gt (pv 5) pe_int (nomark _)) (pss_one (ps_set (i := 5) sc__law_seen.nd rfl (Or.inl rfl) (pe_op op_add (pe_op op_mul pe_int (pv 5)) (pv 7)))) (pss_one (ps_set (i := 5) sc__law_seen.nd rfl (Or.inl rfl) (pv 7))))))))))))))) ?_
    refine blk_cons (ps_if (PW.pt (pw_or (pt_cmpR (op_neD hr.units) (pv 6) (pv 4) (nomark _)) (pw_or1 (pt_cmpR (op_neD hr.units) (pe_meth0 (pv 0) T.cl_Foreteller T.y_Foreteller_weights.m (ok_Foreteller_weights T) (hr.mono (by decide)) T.y_Foreteller_weights.B .nil pass0) (pv 3) (nomark _))))) (pss_one (ps_ret pe_non)) pss_nil) ?_
    refine ⟨_, (pss_one (ps_ret (pv 3))), ?_⟩
    try dsimp only [cxOf]
    refine i_start (σ' := [some _, some _, some _, some _, some _, none, none, none, none, none, none, none]) rfl ?_
    walk_at "rd"
    refine ⟨by walk_at "len", fun sv hsv0 => ?_⟩
    with_reducible first | refine new_obj2 hsv0 fun H1 S1 hsv1 => ?_ | refine new_obj hsv0 fun H1 S1 hsv1 => ?_
    walk_at "rd"
    refine ⟨t, ts, rfl, S1 _ _ ht, by omega, fun bt H2 hbt0 hbt2 S2 => ?_⟩
    have S12 := S1.trans S2
    have hS2 := hS.same S12
    have nwf : ∀ {c : Addr}, H1 c = none → ¬ W c := fun {c} e w => by
      obtain ⟨o, z⟩ := (hS.same S1).fw.live c w
      rw [e] at z
      cases z
    have nsv : ¬ W sv := fun z => by
      obtain ⟨o, w⟩ := hS.fw.live sv z
      rw [hsv0] at w
      cases w
    have zbt := hS2.ow.nl hbt2 (nwf hbt0)
    have nL : ¬ W L := by
      obtain ⟨A0, f0, O0, m0, hA0, _, _, eN, _⟩ := id hS.fw
      exact hS.fw.out hL rfl (refs_no (by rw [← eN]; exact hA0.n1))
    have zL := hS2.ow.nl (S12 _ _ hL) nL
    have zt := hS2.ow.nl (S12 _ _ ht) nt
    obtain ⟨n1, n6⟩ : 1 ≤ n ∧ n ≤ 6 := by
      obtain ⟨A0, f0, O0, m0, hA0, _, _, eN, _⟩ := id hS.fw
      rw [← eN]
      exact ⟨hA0.n1, hA0.n6⟩
    have hdl : (dec ts).length = 9 * ts.length + 1 := dec_len ts
    refine ⟨bt, rfl, ⟨_, SqL.of hbt2⟩, for_list (K := K) (a := bt) (xs := (dec ts).map V.int) (fun i σ2 G => ∃ (X1 : FX) (W1 : Addr → Prop) (xs1 : List NX) (wv sv1 : Addr) (sl1 : List Int) (v1 v2 v3 v4 v5 : Option V), σ2 = [some (.ref p), some (.ref L), some (.ref d), some (.ref wv), some (.ref t), some (.int X1.nd), some (.ref sv1), v1, v2, v3, v4, v5] ∧ LSt K a G p d n kd ps X1 (M + 6 * i) W1 xs1 ∧ TxE ts i X1.sg X1.nd ∧ (i ≤ 9 * ts.length → sl1 = X1.sg) ∧ (i = 9 * ts.length + 1 → sl1 = ts) ∧ G wv = some (.lst (X1.ws.map V.int)) ∧ ¬ W1 wv ∧ G sv1 = some (.lst (sl1.map V.int)) ∧ ¬ W1 sv1 ∧ Go (Zs W d xs) H2 G (Zs W1 d xs1))
      ⟨X, W, xs, w, sv, [], _, _, _, _, _, by rw [hnd], hS2, .inl ⟨Nat.zero_le _, by rw [hsg, hnd]; exact TxAt.zero ts⟩, fun _ => hsg.symm, fun z => absurd z (by omega), S12 _ _ hw, nw, S2 _ _ hsv1, nsv, Go.refl⟩ (fun i σ2 G _ ⟨_, _, _, _, _, _, _, _, _, _, _, _, _, _, _, _, _, _, _, _, go⟩ => SqL.of (go.fr _ _ hbt2 zbt)) ?_ ?_⟩
    · rintro i y σ2 G hy ⟨X1, W1, xs1, wv, sv1, sl1, v1, v2, v3, v4, v5, rfl, gS, gT, gsg, _, gw, gnw, gsv, gnsv, go⟩
      obtain ⟨b, rfl, hbm, hb, hj⟩ := getInt hy
      obtain ⟨b0, b1⟩ := dec_bits ts _ hbm
      obtain ⟨hTx, hTn⟩ := gT.next hts hb
      obtain rfl := gsg (by omega)
      obtain ⟨nd0, nd1⟩ := hTx.nd hts
      have hsgl := hTx.len
      have gL := go.fr _ _ (S12 _ _ hL) zL
      have gR : LkRow G n lk kd tp ps := fun j hj => by
        obtain ⟨lk', z, h1, h2, h3⟩ := hR j hj
        exact ⟨lk', z, go.fr _ _ (S12 _ _ h1) (hS2.nt (S12 _ _ h1)), go.fr _ _ (S12 _ _ h2) (hS2.nt (S12 _ _ h2)), h3⟩
      have gln := gS.ln
      have hbit := bit_of b0 b1
      walk_at "rd"
      refine ⟨L, d, sv1, n, lk, tp, kd, ps, X1.g, xs1, X1.sg, X1.nd, rfl, gL, n6, gR, gS.ow, by omega, gsv, by omega, fun rh sl ys G1 hrh0 hrh1 gO1 gA1 gN1 gl1 B1 => ?_⟩
      have gLive : ∀ {c : Addr}, G c = none → ¬ W1 c := fun {c} e w => by
        obtain ⟨o, z⟩ := gS.fw.live c w
        rw [e] at z
        cases z
      have nWd : ¬ W1 d := gS.fw.out gS.ow.dt.o rfl (fun ns z => nomatch z)
      have hF1 := gS.fw.but gS.ow.dt.o nWd (fun _ z => nomatch z) (fun _ z => nomatch z) (fun _ _ z => nomatch z) B1
      have go1 : Go (Zs W1 d xs1) G G1 (Zs W1 d (xs1 ++ ys)) := Go.dict B1 gO1.dt.o gN1
      have ap1 : ∀ x ∈ xs1 ++ ys, ¬ W1 x.2.2 := fun x hx => by
        rcases List.mem_append.mp hx with v | v
        · exact gS.ap x v
        · exact gLive (gN1 x v)
      have nld : ∀ {c : Addr} {zs : List V}, G c = some (.lst zs) → c ≠ d := fun {c zs} e z => by
        have e' := gS.ow.dt.o
        rw [← z, e] at e'
        cases e'
      have gw1 := B1 _ _ gw (nld gw)
      have gsv1 := B1 _ _ gsv (nld gsv)
      walk_at "rd"
      refine ⟨rh, rfl, ⟨_, SqL.of hrh1⟩, fun D hD => ?_⟩
      refine comp_list (K := K) (xs := refs sl n) (Mp G1 D (fun j => V.int (X1.g j (ctx (ps j) X1.sg X1.nd)).due)) (Mp.zero hD) (fun _ _ _ q => q.1.seq (SqL.of hrh1)) (fun j y H3 hy hi q => ?_) (fun G2 q => ?_)
      · obtain ⟨S3, hD3⟩ := q
        obtain ⟨rfl, hin⟩ := refs_get hy
        obtain ⟨dq, hq, ok, _⟩ := gO1.at' (gA1 j hin)
        refine i_chance3 (fun Q' h => i_var rfl h) (S3 _ _ hq) ok ?_
        exact Mp.doneR hD (line_lt (by rw [refs_len]; omega)) hi S3 hD3 rfl
      obtain ⟨SG2, hD2⟩ := q
      rw [refs_len] at hD2
      have hD2 : G2 D = some (.lst ((X1.cs (fa0 n ps)).map V.int)) := by
        rw [hD2]
        unfold FX.cs
        rw [List.map_map]
        rfl
      have hF2 := hF1.same SG2
      obtain ⟨A', f, O, m, hA, _, _, eN, _, eP, _⟩ := id hF2
      have ecs := cs_fa0 X1 eN eP
      have hwk := hA.wok
      have hck := hA.cok
      rw [ecs] at hck
      rw [eN] at hwk hck
      have hp2 := hA.me
      walk_at "rd"
      refine ⟨p, A', X1, f, O, m, rfl, hA, fun c G3 hc0 hc3 SG3 => ?_⟩
      rw [ecs] at hc3
      have hA3 := hA.same SG3
      have hp3 := hA3.me
      walk_at "rd"
      refine i_eqL (X1.cs (fa0 n ps)) (X1.cs (fa0 n ps)) (SqL.of hc3) (SqL.of (SG3 _ _ hD2)) ?_
      walk_at "rd"
      refine iteNp rfl ?_
      walk_at "rd"
      refine ⟨p, A', X1, f, O, m, rfl, hA3, fun G4 SG4 => ?_⟩
      rw [ecs]
      have SG14 := SG2.trans (SG3.trans SG4)
      have hA4 := hA3.same SG4
      have hp4 := hA4.me
      walk_at "rd"
      refine ⟨wv, D, X1.ws, X1.cs (fa0 n ps), n, rfl, n1, n6, hwk, hck, SqL.of (SG14 _ _ gw1), SqL.of (SG4 _ _ (SG3 _ _ hD2)), ?_⟩
      walk_at "rd"
      refine iteNp rfl ?_
      walk_at "rd"
      refine i_mid (fun σ' G' => (∃ v4' : Option V, σ' = [some (.ref p), some (.ref L), some (.ref d), some (.ref wv), some (.ref t), some (.int X1.nd), some (.ref sv1), some (.int b), some (.ref rh), some (.ref D), v4', v5]) ∧ Same G4 G') ?_ ?_
      · walk_at "rd"
        refine iteD (fun h0 => ?_) (fun h0 => ?_)
        · walk_at "rd"
          refine ⟨p, A', X1, f, O, m, rfl, hA4, fun g5 G5 hg0 hg5 SG5 => ?_⟩
          walk_at "rd"
          refine i_isi (.lst hg5) (kit_lstM (.lst hg5)) ?_
          walk_at "rd"
          refine iteNp rfl ?_
          walk_at "rd"
          refine i_eqL X1.sg X1.sg (SqL.of hg5) (SqL.of (SG5 _ _ (SG14 _ _ gsv1))) ?_
          walk_at "rd"
          refine iteNp rfl ?_
          walk_at "rd"
          refine i_tyL hg5 ?_
          walk_at "rd"
          refine i_append hg5 (line_lt (by rw [List.length_map]; omega)) ?_
          walk_at "rd"
          exact ⟨⟨_, rfl⟩, fun b o e => upd_oth (ne_of_none e hg0) (SG5 _ _ e)⟩
        · walk_at "rd"
          exact ⟨⟨_, rfl⟩, Same.refl _⟩
      · rintro σ' G6 ⟨⟨v4', rfl⟩, SG46⟩
        have SG16 := SG14.trans SG46
        have hF6 := hF1.same SG16
        have hp6 := (hA4.same SG46).me
        have gO6 := gO1.same SG16
        clear hA hA3 hA4 hp2 hp3 hp4
        walk_at "rd"
        refine hF6.see b0 b1 (by omega) fun W7 G7 hF7 go7 => ?_
        have nW : ∀ {c : Addr}, G c = none → ∀ o, G6 c = some o → G7 c = some o := fun {c} e o z => go7.fr _ _ z (gLive e)
        have gO7 : OwS a G7 d n kd X1.g (xs1 ++ ys) := gO6.fr (V := W1) go7.fr nWd (fun c zs e => hF6.out e rfl (fun ns z => nomatch z)) ap1
        have ap7 : ∀ x ∈ xs1 ++ ys, ¬ W7 x.2.2 := fun x hx w => by
          rcases go7.nw _ w with v | v
          · exact ap1 x hx v
          · obtain ⟨j, b', _, _, e, _⟩ := gO6.sl x hx
            rw [v] at e
            cases e
        have hrh7 := nW hrh0 _ (SG16 _ _ hrh1)
        have n7 : ∀ {c : Addr} {o : HO}, G6 c = some o → ¬ W1 c → ¬ W7 c := fun {c o} e no w => by
          rcases go7.nw _ w with v | v
          · exact no v
          · rw [e] at v
            cases v
        have zrh := gO7.nl hrh7 (n7 (SG16 _ _ hrh1) (gLive hrh0))
        have hw7 := go7.fr _ _ (SG16 _ _ gw1) gnw
        have zwv := gO7.nl hw7 (n7 (SG16 _ _ gw1) gnw)
        have nsv7 := n7 (SG16 _ _ gsv1) gnsv
        have hsv7 := go7.fr _ _ (SG16 _ _ gsv1) gnsv
        have zsv := gO7.nl hsv7 nsv7
        have nWD : ¬ W1 D := fun w => by
          obtain ⟨o, z⟩ := hF1.live _ w
          rw [hD] at z
          cases z
        have hD6 := SG46 _ _ (SG4 _ _ (SG3 _ _ hD2))
        have hD7 := go7.fr _ _ hD6 nWD
        have zD := gO7.nl hD7 (n7 hD6 nWD)
        walk_at "rd"
        refine ⟨rh, rfl, ⟨_, SqL.of hrh7⟩, for_list (K := K) (a := rh) (xs := refs sl n) (fun j σ3 G' => ∃ v5' : Option V, σ3 = [some (.ref p), some (.ref L), some (.ref d), some (.ref wv), some (.ref t), some (.int X1.nd), some (.ref sv1), some (.int b), some (.ref rh), some (.ref D), v4', v5'] ∧ FW K a G' p n kd ps (X1.see (fa0 n ps) b) (M + 6 * i + 6) W7 ∧ OwS a G' d n kd (fun i' k' => if i' < j ∧ k' = ctx (ps i') X1.sg X1.nd then (X1.g i' k').see b else X1.g i' k') (xs1 ++ ys) ∧ Go (Zs W7 d (xs1 ++ ys)) G7 G' (Zs W7 d (xs1 ++ ys)))
          ⟨_, rfl, hF7, gO7.congr fun i' k' _ => (by rw [if_neg (fun z => absurd z.1 (Nat.not_lt_zero i'))]), Go.refl⟩ (fun j σ3 G' _ ⟨_, _, _, _, g⟩ => SqL.of (g.fr _ _ hrh7 zrh)) ?_ ?_⟩
        · rintro j y σ3 G' hy ⟨v5', rfl, hFj, hOj, goj⟩
          obtain ⟨rfl, hjn⟩ := refs_get hy
          obtain ⟨dq, hq, ok, kk⟩ := hOj.at' (gA1 j hjn)
          walk_at "rd"
          refine i_seen3 (x := .int b) (fun Q' h => ?_) (fun Q' h => ?_) hq ok (.int b) (fun b' e _ _ G8 h8 B8 => ?_) (fun z => by rw [hbit] at z; cases z) (fun z => by rw [hbit] at z; cases z) (fun z => by rw [hbit] at z; cases z)
          · walk_at "rd"
            exact h
          · walk_at "rd"
            exact h
          cases e
          have hO8 := hOj.told (gA1 j hjn) b0 b1 h8 B8
          obtain ⟨x8, hx8, _, eq8⟩ := nAt_mem (gA1 j hjn)
          have nq8 : ¬ W7 (sl j) := eq8 ▸ ap7 x8 hx8
          have hF8 := hFj.but hq nq8 (fun zs z => by obtain ⟨C8, fs8, eo8⟩ := oS_ins a dq (if j < j ∧ ctx (ps j) X1.sg X1.nd = ctx (ps j) X1.sg X1.nd then (X1.g j (ctx (ps j) X1.sg X1.nd)).see b else X1.g j (ctx (ps j) X1.sg X1.nd)); rw [eo8] at z; cases z) (fun zs z => by obtain ⟨C8, fs8, eo8⟩ := oS_ins a dq (if j < j ∧ ctx (ps j) X1.sg X1.nd = ctx (ps j) X1.sg X1.nd then (X1.g j (ctx (ps j) X1.sg X1.nd)).see b else X1.g j (ctx (ps j) X1.sg X1.nd)); rw [eo8] at z; cases z) (fun _ _ z => by obtain ⟨C8, fs8, eo8⟩ := oS_ins a dq (if j < j ∧ ctx (ps j) X1.sg X1.nd = ctx (ps j) X1.sg X1.nd then (X1.g j (ctx (ps j) X1.sg X1.nd)).see b else X1.g j (ctx (ps j) X1.sg X1.nd)); rw [eo8] at z; cases z) B8
          walk_at "rd"
          refine ⟨_, rfl, hF8, hO8.congr fun i' k' hi' => ?_, goj.trans (Go.slot ⟨x8, hx8, eq8.symm⟩ B8 h8)⟩
          by_cases z : i' = j
          · subst z
            by_cases w : k' = ctx (ps i') X1.sg X1.nd
            · rw [if_pos ⟨rfl, w⟩, if_neg (fun z => absurd z.1 (Nat.lt_irrefl _)), if_pos ⟨Nat.lt_succ_self _, w⟩, w]
            · rw [if_neg (fun z => w z.2), if_neg (fun z => w z.2), if_neg (fun z => w z.2)]
          · rw [if_neg (fun w => z w.1)]
            by_cases w : i' < j ∧ k' = ctx (ps i') X1.sg X1.nd
            · rw [if_pos w, if_pos ⟨by omega, w.2⟩]
            · rw [if_neg w, if_neg (fun v => w ⟨by omega, v.2⟩)]
        · rintro σ3 G8 ⟨v5', rfl, hF8, hO8, go8⟩
          rw [refs_len] at hO8
          walk_at "rd"
          refine ⟨wv, D, X1.ws, X1.cs (fa0 n ps), n, b, rfl, n1, n6, hwk, hck, b0, b1, SqL.of (go8.fr _ _ hw7 zwv), SqL.of (go8.fr _ _ hD7 zD), fun w9 G9 hw90 hw91 SG9 => ?_⟩
          have goR : Go (Zs W d xs) H2 G9 (Zs W7 d (xs1 ++ ys)) := (((go.trans go1).same SG16).trans (Go.seen go7)).trans (go8.same SG9)
          have nW9 : ¬ W7 w9 := fun w => by
            obtain ⟨o, z⟩ := hF8.live _ w
            rw [hw90] at z
            cases z
          have hO9 : OwS a G9 d n kd (X1.see (fa0 n ps) b).g (xs1 ++ ys) := (hO8.congr fun i' k' hi' => by
            show _ = if k' = ctx (ps i') X1.sg X1.nd then (X1.g i' k').see b else X1.g i' k'
            by_cases w : k' = ctx (ps i') X1.sg X1.nd
            · rw [if_pos ⟨hi', w⟩, if_pos w]
            · rw [if_neg (fun v => w v.2), if_neg w]).same SG9
          have hS9 : LSt K a G9 p d n kd ps (X1.see (fa0 n ps) b) (M + 6 * (i + 1)) W7 (xs1 ++ ys) := ⟨(hF8.same SG9).up (by omega), hO9, ap7, by rw [List.length_append]; omega⟩
          have hsv9 := SG9 _ _ (go8.fr _ _ hsv7 zsv)
          have hw9 : G9 w9 = some (.lst ((X1.see (fa0 n ps) b).ws.map V.int)) := hw91
          have stp := hTx.stop hts hb
          have end' : (X1.see (fa0 n ps) b).nd = ndN X1.nd b := rfl
          have esg : (X1.see (fa0 n ps) b).sg = sgN X1.sg X1.nd b := rfl
          clear hF6 hF7 hF8 gO6 gO7 hO8 gO1 gS go go1 go7 go8
          walk_at "rd"
          unfold ndN at end'
          unfold sgN at esg
          refine iteD (fun h127 => ?_) (fun h127 => ?_)
          · rw [if_pos (by omega), if_pos (by omega)] at end' esg
            walk_at "rd"
            refine ⟨by walk_at "len", fun q hq => ?_⟩
            with_reducible first | refine new_obj2 hq fun Ga Sa ea => ?_ | refine new_obj hq fun Ga Sa ea => ?_
            refine ⟨sv1, q, _, _, rfl, rfl, Sa _ _ hsv9, ea, line_le (by rw [List.length_map]; show _ + 1 ≤ _; omega), fun c hc => ?_⟩
            with_reducible first | refine new_obj2 hc fun Gb Sb eb => ?_ | refine new_obj hc fun Gb Sb eb => ?_
            walk_at "rd"
            have Sab := Sa.trans Sb
            refine ⟨X1.see (fa0 n ps) b, W7, xs1 ++ ys, w9, c, X1.sg ++ [2 * X1.nd + b - 256], _, _, _, _, _, by rw [end'], hS9.same Sab, hTn, fun _ => esg.symm, fun z => ?_, Sab _ _ hw9, nW9, by rw [eb, List.map_append]; rfl, fun w => ?_, goR.same Sab⟩
            · rcases stp with ⟨h, _⟩ | ⟨_, _, h, _⟩ <;> omega
            · obtain ⟨o, z⟩ := (hS9.same Sa).fw.live _ w
              rw [hc] at z
              cases z
          · walk_at "rd"
            refine iteD (fun h0 => ?_) (fun h0 => ?_)
            · rw [if_pos (by omega), if_neg (by omega)] at end' esg
              walk_at "rd"
              refine ⟨X1.see (fa0 n ps) b, W7, xs1 ++ ys, w9, sv1, X1.sg, _, _, _, _, _, by rw [end'], hS9, hTn, fun _ => esg.symm, fun z => ?_, hw9, nW9, hsv9, nsv7, goR⟩
              rcases stp with ⟨h, _⟩ | ⟨_, _, h, _⟩ <;> omega
            · rw [if_neg (by omega)] at end' esg
              have endb : (X1.see (fa0 n ps) b).nd = b := by
                rw [end']
                rcases stp with ⟨_, h⟩ | ⟨_, h, h', _⟩
                · rw [h (by omega), if_pos rfl]
                · rw [h, if_neg (by decide), h']
              walk_at "rd"
              refine ⟨X1.see (fa0 n ps) b, W7, xs1 ++ ys, w9, sv1, X1.sg, _, _, _, _, _, by rw [endb], hS9, hTn, fun z => ?_, fun z => ?_, hw9, nW9, hsv9, nsv7, goR⟩
              · rcases stp with ⟨_, h⟩ | ⟨h, _⟩
                · rw [esg, if_pos (h (by omega))]
                · omega
              · rcases stp with ⟨h, _⟩ | ⟨_, _, _, h⟩
                · omega
                · exact h
    · rintro σ2 G ⟨X1, W1, xs1, wv, sv1, sl1, v1, v2, v3, v4, v5, rfl, gS, gT, _, gts, gw, gnw, gsv, gnsv, go⟩
      rw [List.length_map, hdl] at gS gT gts
      rw [gts rfl] at gsv
      obtain ⟨A', f, O, m, hA, _⟩ := id gS.fw
      have hp1 := hA.me
      have htG := go.fr _ _ (S12 _ _ ht) zt
      walk_at "rd"
      refine i_eqL ts ts (SqL.of gsv) (SqL.of htG) ?_
      walk_at "rd"
      refine iteNp rfl ?_
      walk_at "rd"
      refine ⟨p, A', X1, f, O, m, rfl, hA, fun r G3 hr0 hr3 S3 => ?_⟩
      walk_at "rd"
      refine i_eqL X1.ws X1.ws (SqL.of hr3) (SqL.of (S3 _ _ gw)) ?_
      walk_at "rd"
      refine iteNp rfl ?_
      walk_at "rd"
      have hend : X1.sg = [] ∧ X1.nd = 0 := by
        rcases gT with ⟨h, _⟩ | ⟨_, h⟩
        · omega
        · exact h
      exact k wv X1 W1 xs1 G3 (gS.same S3) hend.1 hend.2 (S3 _ _ gw) gnw (Go.ahead S12 (go.same S3))
--%% law
theorem cut_sgs {ts : List Int} (h : Sgs ts) (lo hi : Option Int) : ∃ us : List Int, cutV (ts.map V.int) lo hi = us.map V.int ∧ Sgs us ∧ us.length ≤ ts.length := by
  refine ⟨(ts.drop (HT.sIx (ts.map V.int).length 0 lo)).take (HT.sIx (ts.map V.int).length (ts.map V.int).length hi - HT.sIx (ts.map V.int).length 0 lo), ?_, fun x hx => h x (List.mem_of_mem_drop (List.mem_of_mem_take hx)), ?_⟩
  · unfold cutV
    rw [List.map_take, List.map_drop]
  · rw [List.length_take, List.length_drop]
    omega
theorem refs_take (g : Nat → Addr) (n k : Nat) : (refs g n).take k = refs g (min k n) := by
  unfold refs
  rw [← List.map_take, List.take_range]
def Mf (i : Nat) : Nat := 5406 * min i 3 + 6 * i + 6
/-- the texts of the law, one behind another -/
def Txs (G : Hp) (W : Addr → Prop) (tls : List V) : Prop := ∀ (i : Nat) (v : V), tls[i]? = some v → ∃ (t : Addr) (ts : List Int), v = .ref t ∧ G t = some (.lst (ts.map V.int)) ∧ ¬ W t ∧ Sgs ts ∧ ts.length ≤ 100 ∧ (3 ≤ i → ts = [])
theorem sc_law : FnScope ["_law_script", "_law_looks_here", "_law_way", "_law_most", "_law_far", "_law_many", "_law_first", "_law_second", "_law_signs", "_law_foreteller", "_law_slots_here", "_law_weights", "_law_texts", "_law_text_here"] ["_law_script"] (defScope s_law) := scMk (by decide +kernel)
def sp_law (K : PySem.W.Frag) : Sp := fun vs H Q _ => ∃ (l : Addr) (ns : List Int), vs = [.ref l] ∧ SqL K H l (ns.map V.int) ∧ ns.length ≤ 63 ∧ ∀ H', Q (.bl true) H'
theorem ok_law (T : Txt K mg a) : FnOk P w K mg base CX0 8 a.f_law a.d_law ["_law_script"] (sp_law K) := by
  refine T.y_law.F.ok sc_law (fun vs H Q E h => ?_) (fun cdv A outer s H vs Q E hr h => ?_)
  · obtain ⟨l, ns, rfl, _⟩ := h
    rfl
  · obtain ⟨l, ns, rfl, hS, hlen, k⟩ := h
    refine blk_cons (ps_set (i := 1) sc_law.nd rfl (Or.inl rfl) (pe_call (ok__law_looks T) (hr.mono (by decide)) rfl T.y__law_looks.m T.y__law_looks.F.kp T.y__law_looks.B .nil pass0 (pa_cons (pv 0) pa_nil (star_ok rfl)))) ?_
    refine blk_cons (ps_set (i := 2) sc_law.nd rfl (Or.inl rfl) (pe_op op_fdivB (pe_call (ok__law_cell_at T) (hr.mono (by decide)) rfl T.y__law_cell_at.m T.y__law_cell_at.F.kp T.y__law_cell_at.B .nil pass0 (pa_cons (pv 0) (pa_cons pe_int pa_nil (star_ok rfl)) (star_ok rfl))) pe_int)) ?_
    refine blk_cons (ps_set (i := 3) sc_law.nd rfl (Or.inl rfl) pe_int) ?_
    refine blk_cons (ps_mid (ps_if (pt_cmpR op_eq (pe_op op_mod (pv 2) pe_int) pe_int (nomark _)) (pss_cons (ps_set (i := 4) sc_law.nd rfl (Or.inl rfl) (pe_tup (pa_cons (pe_ix ix_tup (pe_ix ix_list (pv 1) pe_int (fun _ _ => rfl)) pe_int (fun _ _ => rfl)) (pa_cons (pe_ix ix_list (pe_q (qe_lst (qa_cons (qe_of (pe_tup (pa_cons pe_int pa_nil (star_ok rfl)))) (qa_cons (qe_of (pe_tup (pa_cons pe_int pa_nil (star_ok rfl)))) (qa_cons (qe_of (pe_tup (pa_cons pe_int (pa_cons pe_int pa_nil (star_ok rfl)) (star_ok rfl)))) (qa_cons (qe_of (pe_tup (pa_cons pe_int pa_nil (star_ok rfl)))) (qa_cons (qe_of (pe_tup (pa_cons pe_int (pa_cons pe_int (pa_cons pe_int pa_nil (star_ok rfl)) (star_ok rfl)) (star_ok rfl)))) (qa_cons (qe_of (pe_tup (pa_cons pe_int (pa_cons pe_int (pa_cons pe_int (pa_cons pe_int pa_nil (star_ok rfl)) (star_ok rfl)) (star_ok rfl)) (star_ok rfl)))) qa_nil rfl) rfl) rfl) rfl) rfl) rfl))) (pe_op op_mod (pe_op op_fdivB (pv 2) pe_int) pe_int) (fun _ _ => rfl)) pa_nil (star_ok rfl)) (star_ok rfl)))) (pss_cons (ps_set (i := 1) sc_law.nd rfl (Or.inl rfl) (pe_slice sl_list (pe_lst (pa_cons (pv 4) (pa_cons (pe_ix ix_list (pv 1) pe_int (fun _ _ => rfl)) pa_nil (star_ok rfl)) (star_ok rfl))) po_none (po_some (pe_op op_add pe_int (pe_op op_mod (pe_op op_fdivB (pv 2) pe_int) pe_int))))) (pss_one (ps_set (i := 3) sc_law.nd rfl (Or.inl rfl) (pe_ix ix_list (pe_lst (pa_cons pe_int (pa_cons pe_int pa_nil (star_ok rfl)) (star_ok rfl))) (pe_op op_mod (pe_op op_fdivB (pv 2) pe_int) pe_int) (fun _ _ => rfl)))))) pss_nil)) ?_
    refine blk_cons (ps_mid (ps_if (pt_cmpR op_eq (pe_op op_mod (pv 2) pe_int) pe_int (nomark _)) (pss_one (ps_set (i := 1) sc_law.nd rfl (Or.inl rfl) (pe_slice sl_list (pv 1) po_none (po_some pe_int)))) pss_nil)) ?_
    refine blk_cons (ps_set (i := 5) sc_law.nd rfl (Or.inl rfl) (pe_callB (call_min2 rfl) rfl T.z_min (by decide +kernel) (pa_cons (pv 3) (pa_cons (pe_callB (call_max2 rfl) rfl T.z_max (by decide +kernel) (pa_cons pe_int (pa_cons (pe_op op_sub (pe_callB call_len_seq rfl T.z_len (by decide +kernel) (pa_cons (pv 0) pa_nil (star_ok rfl))) pe_int) pa_nil (star_ok rfl)) (star_ok rfl))) pa_nil (star_ok rfl)) (star_ok rfl)))) ?_
    refine blk_cons (ps_set (i := 6) sc_law.nd rfl (Or.inl rfl) (pe_op op_mod (pe_op op_fdivB (pe_call (ok__law_cell_at T) (hr.mono (by decide)) rfl T.y__law_cell_at.m T.y__law_cell_at.F.kp T.y__law_cell_at.B .nil pass0 (pa_cons (pv 0) (pa_cons pe_int pa_nil (star_ok rfl)) (star_ok rfl))) pe_int) (pe_op op_add (pv 5) pe_int))) ?_
    refine blk_cons (ps_mid (ps_if (PW.pt (pw_and (pt_cmpR op_eq (pe_op op_mod (pv 2) pe_int) pe_int (nomark _)) (pw_and1 (pt_cmpR op_eq (pe_op op_mod (pe_op op_fdivB (pv 2) pe_int) pe_int) pe_int (nomark _))))) (pss_one (ps_set (i := 6) sc_law.nd rfl (Or.inl rfl) pe_int)) pss_nil)) ?_
    refine blk_cons (ps_set (i := 7) sc_law.nd rfl (Or.inl rfl) (pe_op op_add (pv 6) (pe_op op_mod (pe_op op_fdivB (pe_call (ok__law_cell_at T) (hr.mono (by decide)) rfl T.y__law_cell_at.m T.y__law_cell_at.F.kp T.y__law_cell_at.B .nil pass0 (pa_cons (pv 0) (pa_cons pe_int pa_nil (star_ok rfl)) (star_ok rfl))) pe_int) (pe_op op_add (pe_op op_sub (pv 5) (pv 6)) pe_int)))) ?_
    refine blk_cons (ps_mid (ps_if (PW.pt (pw_and (pt_cmpR op_eq (pe_op op_mod (pv 2) pe_int) pe_int (nomark _)) (pw_and1 (pt_cmpR op_eq (pe_op op_mod (pe_op op_fdivB (pv 2) pe_int) pe_int) pe_int (nomark _))))) (pss_one (ps_set (i := 7) sc_law.nd rfl (Or.inl rfl) pe_int)) pss_nil)) ?_
    refine blk_cons (ps_set (i := 8) sc_law.nd rfl (Or.inl rfl) (pe_call (ok__law_text T) (hr.mono (by decide)) rfl T.y__law_text.m T.y__law_text.F.kp T.y__law_text.B .nil pass0 (pa_cons (pv 0) (pa_cons pe_int (pa_cons (pv 5) pa_nil (star_ok rfl)) (star_ok rfl)) (star_ok rfl)))) ?_
    refine blk_cons (ps_mid (ps_if (pt_cmpR op_eq (pe_op op_mod (pv 2) pe_int) pe_int (nomark _)) (pss_cons (ps_par3 (i := 1) (j := 6) (k := 7) rfl sc_law.nd rfl rfl rfl (by decide) rfl rfl rfl (pa_cons (pe_slice sl_list (pv 1) po_none (po_some pe_int)) (pa_cons pe_int (pa_cons pe_int pa_nil (star_ok rfl)) (star_ok rfl)) (star_ok rfl)) rfl) (pss_one (ps_set (i := 8) sc_law.nd rfl (Or.inl rfl) (pe_slice sl_list (pe_op op_rep (pe_call (ok__law_text T) (hr.mono (by decide)) rfl T.y__law_text.m T.y__law_text.F.kp T.y__law_text.B .nil pass0 (pa_cons (pv 0) (pa_cons pe_int (pa_cons pe_int pa_nil (star_ok rfl)) (star_ok rfl)) (star_ok rfl))) pe_int) po_none (po_some (pe_op op_add pe_int (pe_op op_mod (pe_op op_fdivB (pv 2) pe_int) pe_int))))))) pss_nil)) ?_
    refine blk_cons (ps_set (i := 9) sc_law.nd rfl (Or.inl rfl) (pe_makeE T.k_Foreteller (ok_Foreteller___init__ T) (hr.mono (by decide)) rfl T.m_Foreteller T.y_Foreteller___init__.B .nil catch_no (pa_cons (pe_callTy call_list_of rfl T.z_list (by decide +kernel) (pa_cons (pv 1) pa_nil (star_ok rfl))) pa_nil (star_ok rfl)))) ?_
    refine blk_cons (ps_set (i := 10) sc_law.nd rfl (Or.inl rfl) pe_ndnew) ?_
    refine blk_cons (ps_set (i := 11) sc_law.nd rfl (Or.inl rfl) (pe_op op_rep (pe_lst (pa_cons (pe_op (op_shlC 1099511627776) pe_int pe_int) pa_nil (star_ok rfl))) (pe_callB call_len_seq rfl T.z_len (by decide +kernel) (pa_cons (pv 1) pa_nil (star_ok rfl))))) ?_
    refine blk_cons (ps_set (i := 12) sc_law.nd rfl (Or.inl rfl) (pe_lst (pa_cons (pe_slice sl_list (pv 8) po_none (po_some (pv 6))) (pa_cons (pe_slice sl_list (pv 8) (po_some (pv 6)) (po_some (pv 7))) (pa_cons (pe_slice sl_list (pv 8) (po_some (pv 7)) po_none) pa_nil (star_ok rfl)) (star_ok rfl)) (star_ok rfl)))) ?_
    refine blk_cons (ps_mid (ps_if (pt_cmpR op_eq (pe_op op_mod (pv 2) pe_int) pe_int (nomark _)) (pss_one (ps_set (i := 12) sc_law.nd rfl (Or.inl rfl) (pe_op op_cat (pv 12) (pe_op op_rep (pe_lst (pa_cons (pe_lst pa_nil) pa_nil (star_ok rfl))) pe_int)))) pss_nil)) ?_
    refine blk_cons (ps_for PassesOwn.never rfl (pi_list (pv 12)) (pg_name (i := 13) sc_law.nd rfl (Or.inl rfl)) (pss_cons (ps_set (i := 11) sc_law.nd rfl (Or.inl rfl) (pe_call (ok__law_seen T) (hr.mono (by decide)) rfl T.y__law_seen.m T.y__law_seen.F.kp T.y__law_seen.B .nil pass0 (pa_cons (pv 9) (pa_cons (pv 1) (pa_cons (pv 10) (pa_cons (pv 11) (pa_cons (pv 13) pa_nil (star_ok rfl)) (star_ok rfl)) (star_ok rfl)) (star_ok rfl)) (star_ok rfl)))) (pss_one (ps_if (pt_cmpR op_isN (pv 11) pe_non (nomark _)) (pss_one (ps_ret pe_bl)) pss_nil)))) ?_
    refine ⟨_, (pss_one (ps_ret (pe_and (pe_cmpR op_eq (pe_meth0 (pv 9) T.cl_Foreteller T.y_Foreteller_node.m (ok_Foreteller_node T) (hr.mono (by decide)) T.y_Foreteller_node.B .nil pass0) pe_int (nomark _)) (pe_one (pe_cmpR (op_eqD hr.units) (pe_meth0 (pv 9) T.cl_Foreteller T.y_Foreteller_signs.m (ok_Foreteller_signs T) (hr.mono (by decide)) T.y_Foreteller_signs.B .nil pass0) (pe_lst pa_nil) (nomark _)))))), ?_⟩
    try dsimp only [cxOf]
    refine i_start (σ' := [some _, none, none, none, none, none, none, none, none, none, none, none, none, none]) rfl ?_
    walk_at "rd"
    refine ⟨l, ns, rfl, hS, fun L0 n0 lk0 kd0' tp0 ps0 H1 hL00 hL01 n01 n06 hR01 S1 => ?_⟩
    walk_at "rd"
    refine ⟨l, ns, 6, rfl, S1.seq hS, fun c6 => ?_⟩
    walk_at "rd"
    generalize c6 / 210 = way
    refine i_mid (fun σ' G' => ∃ (L : Addr) (n : Nat) (lk : Nat → Addr) (kd : Nat → Fin 3) (tp : Nat → Addr) (ps : Nat → List Int) (most : Nat) (v : Option V), σ' = [some (.ref l), some (.ref L), some (.int way), some (.int most), v, none, none, none, none, none, none, none, none, none] ∧ G' L = some (.lst (refs lk n)) ∧ 1 ≤ n ∧ n ≤ 6 ∧ LkRow G' n lk kd tp ps ∧ 5 ≤ most ∧ most ≤ 55 ∧ Same H1 G') ?_ ?_
    · walk_at "rd"
      refine iteD (fun h0 => ?_) (fun h0 => ?_)
      · walk_at "rd"
        refine i_ixL (SqL.of hL01) (atI_nat (j := 0) (refs_0' n01)) ?_
        obtain ⟨q0, eq0, hq1, hq2, hq3⟩ := hR01 0 n01
        cases eq0
        walk_at "rd"
        refine i_ixT (SqT.of hq1) (atI_nat (j := 0) rfl) ?_
        walk_at "rd"
        refine ⟨by walk_at "len", fun t1 ht1 => ?_⟩
        with_reducible first | refine new_obj2 ht1 fun G1 T1 e1 => ?_ | refine new_obj ht1 fun G1 T1 e1 => ?_
        walk_at "rd"
        refine ⟨by walk_at "len", fun t2 ht2 => ?_⟩
        with_reducible first | refine new_obj2 ht2 fun G2 T2 e2 => ?_ | refine new_obj ht2 fun G2 T2 e2 => ?_
        walk_at "rd"
        refine ⟨by walk_at "len", fun t3 ht3 => ?_⟩
        with_reducible first | refine new_obj2 ht3 fun G3 T3 e3 => ?_ | refine new_obj ht3 fun G3 T3 e3 => ?_
        walk_at "rd"
        refine ⟨by walk_at "len", fun t4 ht4 => ?_⟩
        with_reducible first | refine new_obj2 ht4 fun G4 T4 e4 => ?_ | refine new_obj ht4 fun G4 T4 e4 => ?_
        walk_at "rd"
        refine ⟨by walk_at "len", fun t5 ht5 => ?_⟩
        with_reducible first | refine new_obj2 ht5 fun G5 T5 e5 => ?_ | refine new_obj ht5 fun G5 T5 e5 => ?_
        walk_at "rd"
        refine ⟨by walk_at "len", fun t6 ht6 => ?_⟩
        with_reducible first | refine new_obj2 ht6 fun G6 T6 e6 => ?_ | refine new_obj ht6 fun G6 T6 e6 => ?_
        walk_at "rd"
        refine ⟨by walk_at "len", fun t7 ht7 => ?_⟩
        with_reducible first | refine new_obj2 ht7 fun G7 T7 e7 => ?_ | refine new_obj ht7 fun G7 T7 e7 => ?_
        walk_at "rd"
        obtain ⟨v, hv, hav⟩ := atI_any (xs := [V.ref t1, V.ref t2, V.ref t3, V.ref t4, V.ref t5, V.ref t6]) (i := way / 3 % 6) (Int.emod_nonneg _ (by decide)) (by show _ < (6 : Int); exact Int.emod_lt_of_pos _ (by decide))
        refine i_ixL (SqL.of e7) hav ?_
        obtain ⟨tq, pq, rfl, htq, hpq⟩ : ∃ (tq : Addr) (pq : List Int), v = .ref tq ∧ G7 tq = some (.tup (pq.map V.int)) ∧ placesV (pq.map V.int) = true := by
          simp only [List.mem_cons, List.not_mem_nil, or_false] at hv
          rcases hv with rfl | rfl | rfl | rfl | rfl | rfl
          · exact ⟨t1, [6], rfl, T7 _ _ (T6 _ _ (T5 _ _ (T4 _ _ (T3 _ _ (T2 _ _ e1))))), by decide⟩
          · exact ⟨t2, [8], rfl, T7 _ _ (T6 _ _ (T5 _ _ (T4 _ _ (T3 _ _ e2)))), by decide⟩
          · exact ⟨t3, [5, 7], rfl, T7 _ _ (T6 _ _ (T5 _ _ (T4 _ _ e3))), by decide⟩
          · exact ⟨t4, [7], rfl, T7 _ _ (T6 _ _ (T5 _ _ e4)), by decide⟩
          · exact ⟨t5, [1, 6, 8], rfl, T7 _ _ (T6 _ _ e5), by decide⟩
          · exact ⟨t6, [5, 6, 7, 8], rfl, T7 _ _ e6, by decide⟩
        have T17 := T1.trans (T2.trans (T3.trans (T4.trans (T5.trans (T6.trans T7)))))
        clear hv hav e1 e2 e3 e4 e5 e6 e7
        walk_at "rd"
        refine ⟨by walk_at "len", fun ff hff => ?_⟩
        with_reducible first | refine new_obj2 hff fun G8 T8 e8 => ?_ | refine new_obj hff fun G8 T8 e8 => ?_
        have T18 := T17.trans T8
        walk_at "rd"
        refine i_ixL (SqL.of (T18 _ _ hL01)) (atI_nat (j := 0) (refs_0' n01)) ?_
        walk_at "rd"
        refine ⟨by walk_at "len", fun lq hlq => ?_⟩
        with_reducible first | refine new_obj2 hlq fun G9 T9 e9 => ?_ | refine new_obj hlq fun G9 T9 e9 => ?_
        walk_at "rd"
        refine i_slL (SqL.of e9) fun q hq => ?_
        obtain ⟨z, hz, z2⟩ : ∃ z : Nat, 1 + way / 72 % 2 = (z : Int) ∧ (z = 1 ∨ z = 2) := ⟨(1 + way / 72 % 2).toNat, by omega, by omega⟩
        rw [hz, cut_take]
        have er : List.take z [V.ref ff, V.ref (lk0 0)] = refs (fun j => if j = 0 then ff else lk0 0) z := by
          rcases z2 with rfl | rfl <;> rfl
        rw [er]
        with_reducible first | refine new_obj2 hq fun Ga Ta ea => ?_ | refine new_obj hq fun Ga Ta ea => ?_
        have T1a := T18.trans (T9.trans Ta)
        walk_at "rd"
        refine ⟨by walk_at "len", fun lm hlm => ?_⟩
        with_reducible first | refine new_obj2 hlm fun Gb Tb eb => ?_ | refine new_obj hlm fun Gb Tb eb => ?_
        walk_at "rd"
        obtain ⟨v, hv, hav⟩ := atI_any (xs := [V.int 14, V.int 55]) (i := way / 36 % 2) (Int.emod_nonneg _ (by decide)) (by show _ < (2 : Int); exact Int.emod_lt_of_pos _ (by decide))
        refine i_ixL (SqL.of eb) hav ?_
        obtain ⟨mo, rfl, mo5, mo55⟩ : ∃ mo : Nat, v = .int mo ∧ 5 ≤ mo ∧ mo ≤ 55 := by
          simp only [List.mem_cons, List.not_mem_nil, or_false] at hv
          rcases hv with rfl | rfl
          · exact ⟨14, rfl, by decide, by decide⟩
          · exact ⟨55, rfl, by decide, by decide⟩
        walk_at "rd"
        have T1b := T1a.trans Tb
        have T8b := T9.trans (Ta.trans Tb)
        refine ⟨q, z, fun j => if j = 0 then ff else lk0 0, fun _ => kd0' 0, fun j => if j = 0 then tq else tp0 0, fun j => if j = 0 then pq else ps0 0, mo, _, rfl, Tb _ _ ea, by omega, by omega, fun i hi => ?_, mo5, mo55, T1b⟩
        dsimp only
        by_cases zi : i = 0
        · rw [if_pos zi, if_pos zi, if_pos zi]
          exact ⟨ff, rfl, T8b _ _ e8, T8b _ _ (T8 _ _ htq), hpq⟩
        · rw [if_neg zi, if_neg zi, if_neg zi]
          exact ⟨lk0 0, rfl, T1b _ _ hq1, T1b _ _ hq2, hq3⟩
      · walk_at "rd"
        exact ⟨L0, n0, lk0, kd0', tp0, ps0, 5, _, rfl, hL01, n01, n06, hR01, by omega, by omega, Same.refl _⟩
    rintro σ1 H2 ⟨L1, n1, lk1, kd1, tp1, ps1, most, vf, rfl, hL1, n11, n16, hR1, m5, m55, S2⟩
    walk_at "rd"
    refine i_mid (fun σ' G' => ∃ (L : Addr) (n : Nat), σ' = [some (.ref l), some (.ref L), some (.int way), some (.int most), vf, none, none, none, none, none, none, none, none, none] ∧ G' L = some (.lst (refs lk1 n)) ∧ 1 ≤ n ∧ n ≤ 6 ∧ LkRow G' n lk1 kd1 tp1 ps1 ∧ Same H2 G') ?_ ?_
    · walk_at "rd"
      refine iteD (fun h0 => ?_) (fun h0 => ?_)
      · walk_at "rd"
        refine i_slL (SqL.of hL1) fun q hq => ?_
        rw [show (some (2 : Int)) = some ((2 : Nat) : Int) from rfl, cut_take, refs_take]
        with_reducible first | refine new_obj2 hq fun G1 T1 eq1 => ?_ | refine new_obj hq fun G1 T1 eq1 => ?_
        walk_at "rd"
        exact ⟨q, min 2 n1, rfl, eq1, by omega, by omega, fun i hi => hR1.same T1 i (by omega), T1⟩
      · walk_at "rd"
        exact ⟨L1, n1, rfl, hL1, n11, n16, hR1, Same.refl _⟩
    rintro σ2 H3 ⟨L2, n2, rfl, hL2, n21, n26, hR2, S3⟩
    have S13 := S1.trans (S2.trans S3)
    walk_at "rd"
    refine i_len (S13.seq hS) ?_
    rw [List.length_map]
    walk_at "rd"
    refine ⟨1, (ns.length : Int) - 8, rfl, ?_⟩
    obtain ⟨x, hx, x1, x2⟩ : ∃ x : Int, (if (1 : Int) < (ns.length : Int) - 8 then (ns.length : Int) - 8 else 1) = x ∧ 1 ≤ x ∧ x ≤ 55 := ⟨_, rfl, by split <;> omega, by split <;> omega⟩
    rw [hx]
    walk_at "rd"
    refine ⟨most, x, rfl, ?_⟩
    obtain ⟨N, hN, N1, N55⟩ : ∃ N : Nat, (if x < (most : Int) then x else (most : Int)) = (N : Int) ∧ 1 ≤ N ∧ N ≤ 55 := by
      refine ⟨(if x < (most : Int) then x else (most : Int)).toNat, ?_, ?_, ?_⟩ <;> split <;> omega
    rw [hN]
    walk_at "rd"
    refine ⟨l, ns, 6, rfl, S13.seq hS, fun c6' => ?_⟩
    walk_at "rd"
    obtain ⟨f0, hf0, f01⟩ : ∃ t : Nat, c6' / 5 % ((N : Int) + 1) = (t : Int) ∧ t ≤ N := by
      have h1 := Int.emod_nonneg (c6' / 5) (show (N : Int) + 1 ≠ 0 by omega)
      have h2 := Int.emod_lt_of_pos (c6' / 5) (show 0 < (N : Int) + 1 by omega)
      exact ⟨(c6' / 5 % ((N : Int) + 1)).toNat, by omega, by omega⟩
    rw [hf0]
    refine i_mid (fun σ' G' => H3 = G' ∧ ∃ f : Nat, f ≤ N ∧ σ' = [some (.ref l), some (.ref L2), some (.int way), some (.int most), vf, some (.int N), some (.int f), none, none, none, none, none, none, none]) ?_ ?_
    · walk_at "rd"
      refine iteD (fun h0 => ?_) (fun h0 => ?_)
      · walk_at "rd"
        refine iteD (fun h0 => ?_) (fun h0 => ?_)
        · walk_at "rd"
          exact ⟨rfl, 0, Nat.zero_le _, rfl⟩
        · walk_at "rd"
          exact ⟨rfl, f0, f01, rfl⟩
      · walk_at "rd"
        exact ⟨rfl, f0, f01, rfl⟩
    rintro σ3 G3 ⟨rfl, f, fN, rfl⟩
    walk_at "rd"
    refine ⟨l, ns, 6, rfl, S13.seq hS, fun c6'' => ?_⟩
    walk_at "rd"
    obtain ⟨s0, hs0⟩ : ∃ t : Nat, (f : Int) + c6'' / 30 % ((N : Int) - f + 1) = (t : Int) := by
      have h1 := Int.emod_nonneg (c6'' / 30) (show (N : Int) - f + 1 ≠ 0 by omega)
      exact ⟨((f : Int) + c6'' / 30 % ((N : Int) - f + 1)).toNat, by omega⟩
    rw [hs0]
    refine i_mid (fun σ' G' => H3 = G' ∧ ∃ g : Nat, σ' = [some (.ref l), some (.ref L2), some (.int way), some (.int most), vf, some (.int N), some (.int f), some (.int g), none, none, none, none, none, none]) ?_ ?_
    · walk_at "rd"
      refine iteD (fun h0 => ?_) (fun h0 => ?_)
      · walk_at "rd"
        refine iteD (fun h0 => ?_) (fun h0 => ?_)
        · walk_at "rd"
          exact ⟨rfl, 0, rfl⟩
        · walk_at "rd"
          exact ⟨rfl, s0, rfl⟩
      · walk_at "rd"
        exact ⟨rfl, s0, rfl⟩
    rintro σ4 G4 ⟨rfl, g, rfl⟩
    walk_at "rd"
    refine ⟨l, ns, 8, N, rfl, S13.seq hS, by omega, fun sn ts0 H4 hsn0 hsn4 sg0 len0 S4 => ?_⟩
    walk_at "rd"
    refine i_mid (fun σ' G' => ∃ (L : Addr) (n : Nat) (f' g' : Nat) (sn' : Addr) (ts : List Int), σ' = [some (.ref l), some (.ref L), some (.int way), some (.int most), vf, some (.int N), some (.int f'), some (.int g'), some (.ref sn'), none, none, none, none, none] ∧ G' L = some (.lst (refs lk1 n)) ∧ 1 ≤ n ∧ n ≤ 6 ∧ LkRow G' n lk1 kd1 tp1 ps1 ∧ G' sn' = some (.lst (ts.map V.int)) ∧ Sgs ts ∧ ts.length ≤ 100) ?_ ?_
    · walk_at "rd"
      refine iteD (fun h0 => ?_) (fun h0 => ?_)
      · walk_at "rd"
        refine i_slL (SqL.of (S4 _ _ hL2)) fun q hq => ?_
        rw [show (some (1 : Int)) = some ((1 : Nat) : Int) from rfl, cut_take, refs_take]
        with_reducible first | refine new_obj2 hq fun G1 T1 eq1 => ?_ | refine new_obj hq fun G1 T1 eq1 => ?_
        walk_at "rd"
        refine ⟨_, _, _, rfl, ?_⟩
        walk_at "rd"
        refine ⟨l, ns, 8, 35, rfl, (S13.trans (S4.trans T1)).seq hS, by omega, fun q2 us G2 hq20 hq22 sg2 len2 T2 => ?_⟩
        walk_at "rd"
        refine ⟨q2, 2, _, rfl, rfl, hq22, by omega, by omega, line_le (by rw [List.length_map, len2]; decide), fun q3 hq3 => ?_⟩
        have e2 : (List.replicate (2 : Int).toNat (us.map V.int)).flatten = (us ++ us).map V.int := by
          rw [List.map_append]
          show (us.map V.int ++ (us.map V.int ++ [])) = _
          rw [List.append_nil]
        rw [e2]
        with_reducible first | refine new_obj2 hq3 fun G3 T3 eq3 => ?_ | refine new_obj hq3 fun G3 T3 eq3 => ?_
        walk_at "rd"
        refine i_slL (SqL.of eq3) fun q4 hq4 => ?_
        have sg3 : Sgs (us ++ us) := fun x hx => by
          rcases List.mem_append.mp hx with w | w
          · exact sg2 x w
          · exact sg2 x w
        obtain ⟨vs, ev, sgv, lv⟩ := cut_sgs sg3 none (some (66 + way / 48 % 5))
        rw [ev]
        with_reducible first | refine new_obj2 hq4 fun G4 T4 eq4 => ?_ | refine new_obj hq4 fun G4 T4 eq4 => ?_
        walk_at "rd"
        have T14 := T2.trans (T3.trans T4)
        rw [List.length_append, len2] at lv
        exact ⟨q, min 1 n2, 0, 0, q4, vs, rfl, T14 _ _ eq1, by omega, by omega, fun i hi => hR2.same (S4.trans (T1.trans T14)) i (by omega), eq4, sgv, by omega⟩
      · walk_at "rd"
        exact ⟨L2, n2, f, g, sn, ts0, rfl, S4 _ _ hL2, n21, n26, hR2.same S4, hsn4, sg0, by omega⟩
    clear hL2 hR2 hsn4 sg0 len0 hL1 hR1 hL01 hR01
    clear hS S13 S1 S2 S3 S4
    rintro σ5 H5 ⟨L, n, f', g', sn', ts, rfl, hL, n1, n6, hR, hsn, sgs, tsl⟩
    walk_at "rd"
    refine i_listof (SqL.of hL) fun L1 hL10 => ?_
    with_reducible first | refine new_obj2 hL10 fun H6 S6 eL1 => ?_ | refine new_obj hL10 fun H6 S6 eL1 => ?_
    walk_at "rd"
    intro p dp np ndp nep
    refine FW.new np ndp eL1 n1 n6 (hR.same S6) fun W H7 hF nW S7 => ⟨rfl, ?_⟩
    have S57 := S6.trans S7
    walk_at "rd"
    intro d hd
    have eD : upd H7 d (ND d []) d = some (ND d []) := upd_same
    have S8 : Same H7 (upd H7 d (ND d [])) := same_upd hd
    generalize upd H7 d (ND d []) = H8 at eD S8 ⊢
    have hO : OwS a H8 d n kd1 (FX0 n kd1).g [] := ⟨⟨eD, fun _ z => (nomatch z), List.nodup_nil, line_lt (by decide)⟩, fun _ z => (nomatch z), fun _ _ _ _ => rfl, fun _ z => (nomatch z)⟩
    have S58 := S57.trans S8
    walk_at "rd"
    refine ⟨by walk_at "len", fun q1 hq1 => ?_⟩
    with_reducible first | refine new_obj2 hq1 fun H9 S9 e9 => ?_ | refine new_obj hq1 fun H9 S9 e9 => ?_
    walk_at "rd"
    refine i_len (SqL.of (S9 _ _ (S58 _ _ hL))) ?_
    rw [refs_len]
    refine ⟨q1, n, _, rfl, rfl, e9, by omega, by omega, line_le (by show 1 * (n : Int).toNat ≤ 16000000; omega), fun w hw => ?_⟩
    rw [flat_ints]
    with_reducible first | refine new_obj2 hw fun Ha Sa ea => ?_ | refine new_obj hw fun Ha Sa ea => ?_
    have ea : Ha w = some (.lst ((FX0 n kd1).ws.map V.int)) := ea
    have S5a := S58.trans (S9.trans Sa)
    walk_at "rd"
    refine i_slL (SqL.of (S5a _ _ hsn)) fun x1 hx1 => ?_
    obtain ⟨us1, ev1, sg1, l1⟩ := cut_sgs sgs none (some (f' : Int))
    rw [ev1]
    with_reducible first | refine new_obj2 hx1 fun Hb Sb eb => ?_ | refine new_obj hx1 fun Hb Sb eb => ?_
    have S5b := S5a.trans Sb
    walk_at "rd"
    refine i_slL (SqL.of (S5b _ _ hsn)) fun x2 hx2 => ?_
    obtain ⟨us2, ev2, sg2, l2⟩ := cut_sgs sgs (some (f' : Int)) (some (g' : Int))
    rw [ev2]
    with_reducible first | refine new_obj2 hx2 fun Hc Sc ec => ?_ | refine new_obj hx2 fun Hc Sc ec => ?_
    have S5c := S5b.trans Sc
    walk_at "rd"
    refine i_slL (SqL.of (S5c _ _ hsn)) fun x3 hx3 => ?_
    obtain ⟨us3, ev3, sg3, l3⟩ := cut_sgs sgs (some (g' : Int)) none
    rw [ev3]
    with_reducible first | refine new_obj2 hx3 fun Hd Sd ed => ?_ | refine new_obj hx3 fun Hd Sd ed => ?_
    walk_at "rd"
    refine ⟨by walk_at "len", fun tl htl => ?_⟩
    with_reducible first | refine new_obj2 htl fun He Se ee => ?_ | refine new_obj htl fun He Se ee => ?_
    have S7a := S8.trans (S9.trans Sa)
    have S8e := (S9.trans Sa).trans (Sb.trans (Sc.trans (Sd.trans Se)))
    have live7 : ∀ {c : Addr}, H7 c = none → ¬ W c := fun {c} e z => by
      obtain ⟨o, y⟩ := hF.live c z
      rw [e] at y
      cases y
    have nw : ¬ W w := live7 ((S8.trans S9).free hw)
    have n1' : ¬ W x1 := live7 (S7a.free hx1)
    have n2' : ¬ W x2 := live7 ((S7a.trans Sb).free hx2)
    have n3' : ¬ W x3 := live7 ((S7a.trans (Sb.trans Sc)).free hx3)
    have S7d := S7a.trans (Sb.trans (Sc.trans Sd))
    have nt' : ¬ W tl := live7 (S7d.free htl)
    have hT : Txs He W [V.ref x1, V.ref x2, V.ref x3] := fun i v hv => by
      match i, hv with
      | 0, hv => cases hv; exact ⟨x1, us1, rfl, Se _ _ (Sd _ _ (Sc _ _ eb)), n1', sg1, by omega, fun z => absurd z (by decide)⟩
      | 1, hv => cases hv; exact ⟨x2, us2, rfl, Se _ _ (Sd _ _ ec), n2', sg2, by omega, fun z => absurd z (by decide)⟩
      | 2, hv => cases hv; exact ⟨x3, us3, rfl, Se _ _ ed, n3', sg3, by omega, fun z => absurd z (by decide)⟩
    walk_at "rd"
    refine i_mid (fun σ' G' => ∃ (tl' : Addr) (tls : List V), σ' = [some (.ref l), some (.ref L), some (.int way), some (.int most), vf, some (.int N), some (.int f'), some (.int g'), some (.ref sn'), some (.ref p), some (.ref d), some (.ref w), some (.ref tl'), none] ∧ G' tl' = some (.lst tls) ∧ ¬ W tl' ∧ tls.length ≤ 303 ∧ Txs G' W tls ∧ Same He G') ?_ ?_
    · walk_at "rd"
      refine iteD (fun h0 => ?_) (fun h0 => ?_)
      · walk_at "rd"
        refine ⟨by walk_at "len", fun y1 hy1 => ?_⟩
        with_reducible first | refine new_obj2 hy1 fun G1 T1 e1 => ?_ | refine new_obj hy1 fun G1 T1 e1 => ?_
        walk_at "rd"
        refine ⟨by walk_at "len", fun y2 hy2 => ?_⟩
        with_reducible first | refine new_obj2 hy2 fun G2 T2 e2 => ?_ | refine new_obj hy2 fun G2 T2 e2 => ?_
        walk_at "rd"
        refine ⟨y2, 300, _, rfl, rfl, e2, by omega, by omega, line_le (by show 1 * (300 : Int).toNat ≤ 16000000; decide), fun y3 hy3 => ?_⟩
        have e3 : (List.replicate (300 : Int).toNat [V.ref y1]).flatten = List.replicate 300 (V.ref y1) := by
          rw [show (300 : Int).toNat = 300 from rfl, List.flatten_replicate_singleton]
        rw [e3]
        with_reducible first | refine new_obj2 hy3 fun G3 T3 e3 => ?_ | refine new_obj hy3 fun G3 T3 e3 => ?_
        have T13 := T1.trans (T2.trans T3)
        refine ⟨tl, y3, _, _, rfl, rfl, T13 _ _ ee, e3, line_le (by rw [List.length_replicate]; show 3 + 300 ≤ 16000000; decide), fun y4 hy4 => ?_⟩
        with_reducible first | refine new_obj2 hy4 fun G4 T4 e4 => ?_ | refine new_obj hy4 fun G4 T4 e4 => ?_
        walk_at "rd"
        have T14 := T13.trans T4
        refine ⟨y4, _, rfl, e4, live7 ((S7d.trans (Se.trans T13)).free hy4), by rw [List.length_append, List.length_replicate]; show 3 + 300 ≤ 303; decide, fun i v hv => ?_, T14⟩
        rcases Nat.lt_or_ge i 3 with z | z
        · rw [List.getElem?_append_left z] at hv
          obtain ⟨t, ts', e, h1, h2⟩ := hT i v hv
          exact ⟨t, ts', e, T14 _ _ h1, h2⟩
        · rw [List.getElem?_append_right z] at hv
          have := List.eq_of_mem_replicate (List.mem_of_getElem? hv)
          exact ⟨y1, [], this, T4 _ _ (T3 _ _ (T2 _ _ e1)), live7 ((S7d.trans Se).free hy1), fun _ z => (nomatch z), Nat.zero_le _, fun _ => rfl⟩
      · walk_at "rd"
        exact ⟨tl, _, rfl, ee, nt', by show 3 ≤ 303; decide, hT, Same.refl _⟩
    rintro σ6 Hf ⟨tl', tls, rfl, htl', ntl', ltl, hT', Sf⟩
    have S5f := S5a.trans (Sb.trans (Sc.trans (Sd.trans (Se.trans Sf))))
    have S8f := S8e.trans Sf
    have hS0 : LSt K a Hf p d n kd1 ps1 (FX0 n kd1) (Mf 0) W [] := ⟨(hF.same (S8.trans S8f)).up (by decide), hO.same S8f, fun _ z => (nomatch z), Nat.zero_le _⟩
    have zl := hS0.ow.nl htl' ntl'
    walk_at "rd"
    refine ⟨tl', rfl, ⟨_, SqL.of htl'⟩, for_list (K := K) (a := tl') (xs := tls) (fun i σ2 G => ∃ (X : FX) (W1 : Addr → Prop) (xs1 : List NX) (wv : Addr) (v : Option V), σ2 = [some (.ref l), some (.ref L), some (.int way), some (.int most), vf, some (.int N), some (.int f'), some (.int g'), some (.ref sn'), some (.ref p), some (.ref d), some (.ref wv), some (.ref tl'), v] ∧ LSt K a G p d n kd1 ps1 X (Mf i) W1 xs1 ∧ X.sg = [] ∧ X.nd = 0 ∧ G wv = some (.lst (X.ws.map V.int)) ∧ ¬ W1 wv ∧ Go (Zs W d []) Hf G (Zs W1 d xs1))
      ⟨FX0 n kd1, W, [], w, _, rfl, hS0, rfl, rfl, Sf _ _ (Se _ _ (Sd _ _ (Sc _ _ (Sb _ _ ea)))), nw, Go.refl⟩ (fun i σ2 G _ ⟨_, _, _, _, _, _, _, _, _, _, _, go⟩ => SqL.of (go.fr _ _ htl' zl)) ?_ ?_⟩
    · rintro i y σ2 G hy ⟨X, W1, xs1, wv, v, rfl, gS, gsg, gnd, gw, gnw, go⟩
      obtain ⟨t, ts', rfl, ht, nt, hts, htl3, h3⟩ := hT' i y hy
      have hi : i < 303 := Nat.lt_of_lt_of_le (List.getElem?_eq_some_iff.mp hy).1 ltl
      have zt := hS0.ow.nl ht nt
      have zL : ¬ Zs W d [] L := hS0.ow.nl (S5f _ _ hL) (hS0.fw.out (S5f _ _ hL) rfl (refs_no n1))
      have step : Mf i + 6 * (9 * ts'.length + 1) ≤ Mf (i + 1) ∧ Mf i + 6 * (9 * ts'.length + 1) + 100 < 100000 := by
        unfold Mf
        rcases Nat.lt_or_ge i 3 with z | z
        · omega
        · rw [h3 z]
          simp only [List.length_nil]
          omega
      walk_at "rd"
      refine ⟨p, L, d, wv, t, n, lk1, tp1, kd1, ps1, X, Mf i, W1, xs1, ts', rfl, gS, gsg, gnd, go.fr _ _ (S5f _ _ hL) zL, fun j hj => ?_, gw, gnw, go.fr _ _ ht zt, fun z => ?_, hts, htl3, step.2, fun r X' W' xs' G' gS' e1 e2 e3 e4 go' => ?_⟩
      · obtain ⟨lk', z, h1, h2, h3⟩ := hR j hj
        exact ⟨lk', z, go.fr _ _ (S5f _ _ h1) (hS0.nt (S5f _ _ h1)), go.fr _ _ (S5f _ _ h2) (hS0.nt (S5f _ _ h2)), h3⟩
      · rcases go.nw t (.inl z) with v | v
        · exact zt v
        · rw [ht] at v
          cases v
      walk_at "rd"
      exact ⟨X', W', xs', r, _, rfl, ⟨gS'.fw.up step.1, gS'.ow, gS'.ap, Nat.le_trans gS'.ln step.1⟩, e1, e2, e3, e4, go.trans go'⟩
    · rintro σ2 G ⟨X, W1, xs1, wv, v, rfl, gS, gsg, gnd, gw, gnw, go⟩
      obtain ⟨A', f, O, m, hA, _⟩ := id gS.fw
      have hp1 := hA.me
      walk_at "rd"
      refine ⟨p, A', X, f, O, m, rfl, hA, ?_⟩
      rw [gnd]
      walk_at "rd"
      refine iteD (fun _ => ?_) (fun z => absurd rfl z)
      walk_at "rd"
      refine ⟨p, A', X, f, O, m, rfl, hA, fun r G1 hr0 hr1 T1 => ?_⟩
      walk_at "rd"
      refine ⟨by walk_at "len", fun e0 he0 => ?_⟩
      with_reducible first | refine new_obj2 he0 fun G2 T2 ee2 => ?_ | refine new_obj he0 fun G2 T2 ee2 => ?_
      rw [gsg] at hr1
      refine i_eqL [] [] (SqL.of (T2 _ _ hr1)) (SqL.of ee2) ?_
      exact k _
end
theorem all_mk {l : PySem.W.OpenLaw} {w : World} {K : PySem.W.Frag} {h : Heap} {mg : Str → Option Value} (X : K.In h) (G : h.Ns mainGlobals mg) (hfa : mg "law" = some (.ref fa))
    (aC_Even : GV K "Even" (.ref C_Even))
    (aC_Quick : GV K "Quick" (.ref C_Quick))
    (aC_Run : GV K "Run" (.ref C_Run))
    (aC_Mixer : GV K "Mixer" (.ref C_Mixer))
    (aC_Book : GV K "Book" (.ref C_Book))
    (aC_Foreteller : GV K "Foreteller" (.ref C_Foreteller))
    (aC_NoChance : GV K "NoChance" (.ref C_NoChance))
    (aC_NoBit : GV K "NoBit" (.ref C_NoBit))
    (aC_NoLooks : GV K "NoLooks" (.ref C_NoLooks))
    (y_is_whole : Dgf K mg "is_whole" s_is_whole f_is_whole d_is_whole)
    (y_is_bit : Dgf K mg "is_bit" s_is_bit f_is_bit d_is_bit)
    (y_is_chance : Dgf K mg "is_chance" s_is_chance f_is_chance d_is_chance)
    (y_check_chance : Dgf K mg "check_chance" s_check_chance f_check_chance d_check_chance)
    (y_check_bit : Dgf K mg "check_bit" s_check_bit f_check_bit d_check_bit)
    (y_gives : Dgf K mg "gives" s_gives f_gives d_gives)
    (y_Even___init__ : Dgm K C_Even "__init__" "Even.__init__" s_Even___init__ f_Even___init__ d_Even___init__)
    (y_Even_chance : Dgm K C_Even "chance" "Even.chance" s_Even_chance f_Even_chance d_Even_chance)
    (y_Even_seen : Dgm K C_Even "seen" "Even.seen" s_Even_seen f_Even_seen d_Even_seen)
    (y_Quick___init__ : Dgm K C_Quick "__init__" "Quick.__init__" s_Quick___init__ f_Quick___init__ d_Quick___init__)
    (y_Quick_chance : Dgm K C_Quick "chance" "Quick.chance" s_Quick_chance f_Quick_chance d_Quick_chance)
    (y_Quick_seen : Dgm K C_Quick "seen" "Quick.seen" s_Quick_seen f_Quick_seen d_Quick_seen)
    (y_Run___init__ : Dgm K C_Run "__init__" "Run.__init__" s_Run___init__ f_Run___init__ d_Run___init__)
    (y_Run_chance : Dgm K C_Run "chance" "Run.chance" s_Run_chance f_Run_chance d_Run_chance)
    (y_Run_seen : Dgm K C_Run "seen" "Run.seen" s_Run_seen f_Run_seen d_Run_seen)
    (y_slot_of : Dgf K mg "slot_of" s_slot_of f_slot_of d_slot_of)
    (y_is_kind : Dgf K mg "is_kind" s_is_kind f_is_kind d_is_kind)
    (y_is_place : Dgf K mg "is_place" s_is_place f_is_place d_is_place)
    (y_are_places : Dgf K mg "are_places" s_are_places f_are_places d_are_places)
    (y_is_look : Dgf K mg "is_look" s_is_look f_is_look d_is_look)
    (y_checked_looks : Dgf K mg "checked_looks" s_checked_looks f_checked_looks d_checked_looks)
    (y_sign_back : Dgf K mg "sign_back" s_sign_back f_sign_back d_sign_back)
    (y_context_of : Dgf K mg "context_of" s_context_of f_context_of d_context_of)
    (y_Book___init__ : Dgm K C_Book "__init__" "Book.__init__" s_Book___init__ f_Book___init__ d_Book___init__)
    (y_Book_slot_at : Dgm K C_Book "slot_at" "Book.slot_at" s_Book_slot_at f_Book_slot_at d_Book_slot_at)
    (y_Mixer___init__ : Dgm K C_Mixer "__init__" "Mixer.__init__" s_Mixer___init__ f_Mixer___init__ d_Mixer___init__)
    (y_Mixer_weights : Dgm K C_Mixer "weights" "Mixer.weights" s_Mixer_weights f_Mixer_weights d_Mixer_weights)
    (y_Mixer_mixed : Dgm K C_Mixer "mixed" "Mixer.mixed" s_Mixer_mixed f_Mixer_mixed d_Mixer_mixed)
    (y_Mixer_learn : Dgm K C_Mixer "learn" "Mixer.learn" s_Mixer_learn f_Mixer_learn d_Mixer_learn)
    (y_Foreteller___init__ : Dgm K C_Foreteller "__init__" "Foreteller.__init__" s_Foreteller___init__ f_Foreteller___init__ d_Foreteller___init__)
    (y_Foreteller_arrive : Dgm K C_Foreteller "arrive" "Foreteller.arrive" s_Foreteller_arrive f_Foreteller_arrive d_Foreteller_arrive)
    (y_Foreteller_chances : Dgm K C_Foreteller "chances" "Foreteller.chances" s_Foreteller_chances f_Foreteller_chances d_Foreteller_chances)
    (y_Foreteller_chance : Dgm K C_Foreteller "chance" "Foreteller.chance" s_Foreteller_chance f_Foreteller_chance d_Foreteller_chance)
    (y_Foreteller_weights : Dgm K C_Foreteller "weights" "Foreteller.weights" s_Foreteller_weights f_Foreteller_weights d_Foreteller_weights)
    (y_Foreteller_node : Dgm K C_Foreteller "node" "Foreteller.node" s_Foreteller_node f_Foreteller_node d_Foreteller_node)
    (y_Foreteller_signs : Dgm K C_Foreteller "signs" "Foreteller.signs" s_Foreteller_signs f_Foreteller_signs d_Foreteller_signs)
    (y_Foreteller_see : Dgm K C_Foreteller "see" "Foreteller.see" s_Foreteller_see f_Foreteller_see d_Foreteller_see)
    (y_Foreteller_step : Dgm K C_Foreteller "step" "Foreteller.step" s_Foreteller_step f_Foreteller_step d_Foreteller_step)
    (y_Foreteller_step_in_sign : Dgm K C_Foreteller "step_in_sign" "Foreteller.step_in_sign" s_Foreteller_step_in_sign f_Foreteller_step_in_sign d_Foreteller_step_in_sign)
    (y__law_cell_at : Dgf K mg "_law_cell_at" s__law_cell_at f__law_cell_at d__law_cell_at)
    (y__law_look : Dgf K mg "_law_look" s__law_look f__law_look d__law_look)
    (y__law_looks : Dgf K mg "_law_looks" s__law_looks f__law_looks d__law_looks)
    (y__law_sign : Dgf K mg "_law_sign" s__law_sign f__law_sign d__law_sign)
    (y__law_text : Dgf K mg "_law_text" s__law_text f__law_text d__law_text)
    (y__law_bits : Dgf K mg "_law_bits" s__law_bits f__law_bits d__law_bits)
    (y__law_learnt : Dgf K mg "_law_learnt" s__law_learnt f__law_learnt d__law_learnt)
    (y__law_context : Dgf K mg "_law_context" s__law_context f__law_context d__law_context)
    (y__law_slots : Dgf K mg "_law_slots" s__law_slots f__law_slots d__law_slots)
    (y__law_mixed : Dgf K mg "_law_mixed" s__law_mixed f__law_mixed d__law_mixed)
    (y__law_seen : Dgf K mg "_law_seen" s__law_seen f__law_seen d__law_seen)
    (y_law : Dgf K mg "law" s_law f_law d_law)
    (q_Even : KC K C_Even)
    (n_Even_noughts : FN K C_Even "noughts")
    (n_Even_ones : FN K C_Even "ones")
    (q_Quick : KC K C_Quick)
    (n_Quick_held : FN K C_Quick "held")
    (q_Run : KC K C_Run)
    (n_Run_last : FN K C_Run "last")
    (n_Run_length : FN K C_Run "length")
    (q_Mixer : KC K C_Mixer)
    (n_Mixer_kept : FN K C_Mixer "kept")
    (q_Book : KC K C_Book)
    (n_Book_look : FN K C_Book "look")
    (n_Book_slots : FN K C_Book "slots")
    (q_Foreteller : KC K C_Foreteller)
    (n_Foreteller_looks : FN K C_Foreteller "looks")
    (n_Foreteller_books : FN K C_Foreteller "books")
    (n_Foreteller_mixer : FN K C_Foreteller "mixer")
    (n_Foreteller_ended : FN K C_Foreteller "ended")
    (n_Foreteller_place : FN K C_Foreteller "place")
    (n_Foreteller_present : FN K C_Foreteller "present")
    (x_NoChance : XCls K C_NoChance)
    (r_NoChance : XMk K C_NoChance)
    (x_NoBit : XCls K C_NoBit)
    (r_NoBit : XMk K C_NoBit)
    (x_NoLooks : XCls K C_NoLooks)
    (r_NoLooks : XMk K C_NoLooks)
    (z_isinstance : GZ K "isinstance")
    (z_int : GZ K "int")
    (z_bool : GZ K "bool")
    (z_min : GZ K "min")
    (z_max : GZ K "max")
    (z_str : GZ K "str")
    (z_all : GZ K "all")
    (z_tuple : GZ K "tuple")
    (z_len : GZ K "len")
    (z_zip : GZ K "zip")
    (z_list : GZ K "list")
    (z_sum : GZ K "sum")
    (z_range : GZ K "range")
    (v_LEAST : GV K "LEAST" (.int 32768 t_LEAST))
    (v_ONE : GV K "ONE" (.int 16777216 t_ONE))
    (v_MOST_COUNTED : GV K "MOST_COUNTED" (.int 255 t_MOST_COUNTED))
    (v_FARTHEST : GV K "FARTHEST" (.int 8 t_FARTHEST))
    (v_MOST_PLACES : GV K "MOST_PLACES" (.int 4 t_MOST_PLACES))
    (v_MOST_LOOKS : GV K "MOST_LOOKS" (.int 6 t_MOST_LOOKS))
    (v_NO_SIGN : GV K "NO_SIGN" (.int 256 t_NO_SIGN))
    (v_FIRST_WEIGHT : GV K "FIRST_WEIGHT" (.int 1099511627776 t_FIRST_WEIGHT))
    (v_OWN_PARTS : GV K "OWN_PARTS" (.int 31 t_OWN_PARTS))
    (v_MOST_FIGURES : GV K "MOST_FIGURES" (.int 48 t_MOST_FIGURES))
    (v_NODES_END : GV K "NODES_END" (.int 256 t_NODES_END))
    (wa_KINDS : GV K "KINDS" (.ref W_KINDS))
    (wl_KINDS : K.lookup W_KINDS = some ⟨.type "tuple", wd_KINDS, .seq #[.str "even" wt_KINDS_0, .str "quick" wt_KINDS_1, .str "run" wt_KINDS_2] wn_KINDS, ws_KINDS⟩)
    : ∃ fd : FuncData, (∀ (s : Shared) (v : Value), BindsTo s fd ⟨[v], []⟩ [("_law_script", v)]) ∧ ∀ base : Heap, K.In base → base.Ns mainGlobals mg → FnOk l.prog w K mg base CX0 8 fa fd ["_law_script"] (sp_law K) := by
  have e := hfa.symm.trans y_law.m
  cases e
  have T : Txt K mg ⟨f_is_whole, d_is_whole, f_is_bit, d_is_bit, f_is_chance, d_is_chance, f_check_chance, d_check_chance, f_check_bit, d_check_bit, f_gives, d_gives, f_Even___init__, d_Even___init__, f_Even_chance, d_Even_chance, f_Even_seen, d_Even_seen, f_Quick___init__, d_Quick___init__, f_Quick_chance, d_Quick_chance, f_Quick_seen, d_Quick_seen, f_Run___init__, d_Run___init__, f_Run_chance, d_Run_chance, f_Run_seen, d_Run_seen, f_slot_of, d_slot_of, f_is_kind, d_is_kind, f_is_place, d_is_place, f_are_places, d_are_places, f_is_look, d_is_look, f_checked_looks, d_checked_looks, f_sign_back, d_sign_back, f_context_of, d_context_of, f_Book___init__, d_Book___init__, f_Book_slot_at, d_Book_slot_at, f_Mixer___init__, d_Mixer___init__, f_Mixer_weights, d_Mixer_weights, f_Mixer_mixed, d_Mixer_mixed, f_Mixer_learn, d_Mixer_learn, f_Foreteller___init__, d_Foreteller___init__, f_Foreteller_arrive, d_Foreteller_arrive, f_Foreteller_chances, d_Foreteller_chances, f_Foreteller_chance, d_Foreteller_chance, f_Foreteller_weights, d_Foreteller_weights, f_Foreteller_node, d_Foreteller_node, f_Foreteller_signs, d_Foreteller_signs, f_Foreteller_see, d_Foreteller_see, f_Foreteller_step, d_Foreteller_step, f_Foreteller_step_in_sign, d_Foreteller_step_in_sign, f__law_cell_at, d__law_cell_at, f__law_look, d__law_look, f__law_looks, d__law_looks, f__law_sign, d__law_sign, f__law_text, d__law_text, f__law_bits, d__law_bits, f__law_learnt, d__law_learnt, f__law_context, d__law_context, f__law_slots, d__law_slots, f__law_mixed, d__law_mixed, f__law_seen, d__law_seen, fa, d_law, C_Even, C_Quick, C_Run, C_Mixer, C_Book, C_Foreteller, C_NoChance, C_NoBit, C_NoLooks, t_LEAST, t_ONE, t_MOST_COUNTED, t_FARTHEST, t_MOST_PLACES, t_MOST_LOOKS, t_NO_SIGN, t_FIRST_WEIGHT, t_OWN_PARTS, t_MOST_FIGURES, t_NODES_END, W_KINDS⟩ := ⟨
    y_is_whole.d1 fun _ _ _ _ _ _ _ => rfl,
    y_is_bit.d1 fun _ _ _ _ _ _ _ => rfl,
    y_is_chance.d1 fun _ _ _ _ _ _ _ => rfl,
    y_check_chance.d1 fun _ _ _ _ _ _ _ => rfl,
    y_check_bit.d1 fun _ _ _ _ _ _ _ => rfl,
    y_gives.d2 fun _ _ _ _ _ _ _ _ => rfl,
    y_Even___init__.d1 fun _ _ _ _ _ _ _ => rfl,
    y_Even_chance.d1 fun _ _ _ _ _ _ _ => rfl,
    y_Even_seen.d2 fun _ _ _ _ _ _ _ _ => rfl,
    y_Quick___init__.d1 fun _ _ _ _ _ _ _ => rfl,
    y_Quick_chance.d1 fun _ _ _ _ _ _ _ => rfl,
    y_Quick_seen.d2 fun _ _ _ _ _ _ _ _ => rfl,
    y_Run___init__.d1 fun _ _ _ _ _ _ _ => rfl,
    y_Run_chance.d1 fun _ _ _ _ _ _ _ => rfl,
    y_Run_seen.d2 fun _ _ _ _ _ _ _ _ => rfl,
    y_slot_of.d1 fun _ _ _ _ _ _ _ => rfl,
    y_is_kind.d1 fun _ _ _ _ _ _ _ => rfl,
    y_is_place.d1 fun _ _ _ _ _ _ _ => rfl,
    y_are_places.d1 fun _ _ _ _ _ _ _ => rfl,
    y_is_look.d1 fun _ _ _ _ _ _ _ => rfl,
    y_checked_looks.d1 fun _ _ _ _ _ _ _ => rfl,
    y_sign_back.d2 fun _ _ _ _ _ _ _ _ => rfl,
    y_context_of.d3 fun _ _ _ _ _ _ _ _ _ => rfl,
    y_Book___init__.d2 fun _ _ _ _ _ _ _ _ => rfl,
    y_Book_slot_at.d3 fun _ _ _ _ _ _ _ _ _ => rfl,
    y_Mixer___init__.d2 fun _ _ _ _ _ _ _ _ => rfl,
    y_Mixer_weights.d1 fun _ _ _ _ _ _ _ => rfl,
    y_Mixer_mixed.d2 fun _ _ _ _ _ _ _ _ => rfl,
    y_Mixer_learn.d3 fun _ _ _ _ _ _ _ _ _ => rfl,
    y_Foreteller___init__.d2 fun _ _ _ _ _ _ _ _ => rfl,
    y_Foreteller_arrive.d1 fun _ _ _ _ _ _ _ => rfl,
    y_Foreteller_chances.d1 fun _ _ _ _ _ _ _ => rfl,
    y_Foreteller_chance.d1 fun _ _ _ _ _ _ _ => rfl,
    y_Foreteller_weights.d1 fun _ _ _ _ _ _ _ => rfl,
    y_Foreteller_node.d1 fun _ _ _ _ _ _ _ => rfl,
    y_Foreteller_signs.d1 fun _ _ _ _ _ _ _ => rfl,
    y_Foreteller_see.d2 fun _ _ _ _ _ _ _ _ => rfl,
    y_Foreteller_step.d2 fun _ _ _ _ _ _ _ _ => rfl,
    y_Foreteller_step_in_sign.d2 fun _ _ _ _ _ _ _ _ => rfl,
    y__law_cell_at.d2 fun _ _ _ _ _ _ _ _ => rfl,
    y__law_look.d1 fun _ _ _ _ _ _ _ => rfl,
    y__law_looks.d1 fun _ _ _ _ _ _ _ => rfl,
    y__law_sign.d2 fun _ _ _ _ _ _ _ _ => rfl,
    y__law_text.d3 fun _ _ _ _ _ _ _ _ _ => rfl,
    y__law_bits.d1 fun _ _ _ _ _ _ _ => rfl,
    y__law_learnt.d3 fun _ _ _ _ _ _ _ _ _ => rfl,
    y__law_context.d3 fun _ _ _ _ _ _ _ _ _ => rfl,
    y__law_slots.d4 fun _ _ _ _ _ _ _ _ _ _ => rfl,
    y__law_mixed.d2 fun _ _ _ _ _ _ _ _ => rfl,
    y__law_seen.d5 fun _ _ _ _ _ _ _ _ _ _ _ => rfl,
    y_law.d1 fun _ _ _ _ _ _ _ => rfl,
    q_Even.cls,
    PySem.W.mg_of X G aC_Even,
    ⟨q_Even.mk', y_Even___init__.m.1, y_Even___init__.m.2, q_Even.kc⟩,
    n_Even_noughts,
    n_Even_ones,
    q_Quick.cls,
    PySem.W.mg_of X G aC_Quick,
    ⟨q_Quick.mk', y_Quick___init__.m.1, y_Quick___init__.m.2, q_Quick.kc⟩,
    n_Quick_held,
    q_Run.cls,
    PySem.W.mg_of X G aC_Run,
    ⟨q_Run.mk', y_Run___init__.m.1, y_Run___init__.m.2, q_Run.kc⟩,
    n_Run_last,
    n_Run_length,
    q_Mixer.cls,
    PySem.W.mg_of X G aC_Mixer,
    ⟨q_Mixer.mk', y_Mixer___init__.m.1, y_Mixer___init__.m.2, q_Mixer.kc⟩,
    n_Mixer_kept,
    q_Book.cls,
    PySem.W.mg_of X G aC_Book,
    ⟨q_Book.mk', y_Book___init__.m.1, y_Book___init__.m.2, q_Book.kc⟩,
    n_Book_look,
    n_Book_slots,
    q_Foreteller.cls,
    PySem.W.mg_of X G aC_Foreteller,
    ⟨q_Foreteller.mk', y_Foreteller___init__.m.1, y_Foreteller___init__.m.2, q_Foreteller.kc⟩,
    n_Foreteller_looks,
    n_Foreteller_books,
    n_Foreteller_mixer,
    n_Foreteller_ended,
    n_Foreteller_place,
    n_Foreteller_present,
    PySem.W.mg_of X G aC_NoChance,
    PySem.W.mg_of X G aC_NoBit,
    PySem.W.mg_of X G aC_NoLooks,
    x_NoChance,
    r_NoChance,
    x_NoBit,
    r_NoBit,
    x_NoLooks,
    r_NoLooks,
    PySem.W.mg_none_of X G z_isinstance,
    PySem.W.mg_none_of X G z_int,
    PySem.W.mg_none_of X G z_bool,
    PySem.W.mg_none_of X G z_min,
    PySem.W.mg_none_of X G z_max,
    PySem.W.mg_none_of X G z_str,
    PySem.W.mg_none_of X G z_all,
    PySem.W.mg_none_of X G z_tuple,
    PySem.W.mg_none_of X G z_len,
    PySem.W.mg_none_of X G z_zip,
    PySem.W.mg_none_of X G z_list,
    PySem.W.mg_none_of X G z_sum,
    PySem.W.mg_none_of X G z_range,
    PySem.W.mg_of X G v_LEAST,
    PySem.W.mg_of X G v_ONE,
    PySem.W.mg_of X G v_MOST_COUNTED,
    PySem.W.mg_of X G v_FARTHEST,
    PySem.W.mg_of X G v_MOST_PLACES,
    PySem.W.mg_of X G v_MOST_LOOKS,
    PySem.W.mg_of X G v_NO_SIGN,
    PySem.W.mg_of X G v_FIRST_WEIGHT,
    PySem.W.mg_of X G v_OWN_PARTS,
    PySem.W.mg_of X G v_MOST_FIGURES,
    PySem.W.mg_of X G v_NODES_END,
    PySem.W.mg_of X G wa_KINDS,
    fun H => .inr ⟨_, _, _, wl_KINDS, rfl, rfl, (by show 3 ≤ sizeLine; decide), (.cons ⟨_, rfl⟩ (.cons ⟨_, rfl⟩ (.cons ⟨_, rfl⟩ .nil)))⟩⟩
  refine ⟨d_law, fun s v => ?_, fun base _ _ => ok_law T⟩
  obtain ⟨_, _, _, _, _, _, _, _, _, rfl, _, _⟩ := y_law.F.ex
  exact .of_eq rfl
theorem walk {l : PySem.W.OpenLaw} {q : Program} {loose : List Str} {XP : (Str → Option Value) → Heap → Prop} {YP : World → Heap → Prop} {d : DefRec} {K : Params → PySem.W.Frag} (hn : l.most = some 63) (hdf : d.params.defaults = [])
    (hY : ∀ (w : World) (h : Heap), YP w h → (K w.params).In h)
    (F : ∀ (w : World) (mg : Str → Option Value) (fa : Addr) (h : Heap), (K w.params).In h → h.Ns mainGlobals mg → mg d.name = some (.ref fa) →
      ∃ fd : FuncData, (∀ (s : Shared) (u : Value), BindsTo s fd ⟨[u], []⟩ [("_law_script", u)]) ∧ ∀ base : Heap, (K w.params).In base → base.Ns mainGlobals mg → FnOk l.prog w (K w.params) mg base CX0 8 fa fd ["_law_script"] (sp_law (K w.params))) :
    PySem.W.WalkO q loose XP YP l.row.toRowW d [] (fun f vs => PySem.call f vs) :=
  L2.walk_of (n := 63) (k := 8) (x := "_law_script") (CX := fun _ => CX0) (sp := fun w => sp_law (K w.params)) hn (by decide) hdf ⟨rfl, by decide, by decide⟩ hY F (fun _ _ a ns hl _ hS => ⟨a, ns, rfl, hS, hl, fun _ => rfl⟩) fun _ _ _ _ _ z => z
end Law
open PySem PySem.W PyProof.Rows
def PySem.W.Fast.tw9609399568418115739 : Unit := ()
def PySem.W.Fast.tw16386028256105399519 : Unit := ()
def PySem.W.Fast.tw1197150985193564258 : Unit := ()
def PySem.W.Fast.tw12854699319194597579 : Unit := ()
def PySem.W.Fast.tw5304881786616417456 : Unit := ()
def PySem.W.Fast.tw11917575468198009379 : Unit := ()
def PySem.W.Fast.tw12543762806375747322 : Unit := ()
def PySem.W.Fast.tw18193334358457162523 : Unit := ()
def PySem.W.Fast.tw621481155921679530 : Unit := ()
def PySem.W.Fast.tw17947765193682640197 : Unit := ()
def PySem.W.Fast.tw11523228140985506637 : Unit := ()
def PySem.W.Fast.tw5083433767508413628 : Unit := ()
def PySem.W.Fast.tw11486631064488818104 : Unit := ()
set_option maxRecDepth 100000 in
set_option maxHeartbeats 0 in
theorem PySem.Challenge.cw_foretell_k25_texts_behind_one_another_holds : PySem.Challenge.rw_foretell_k25_texts_behind_one_another.Holds := by
  w_on; o_law; k_head; (case hw => w_witness2)
  k_fill
  refine Law.walk (l := PySem.Challenge.rw_foretell_k25_texts_behind_one_another) rfl rfl (fun w h Y => PySem.W.kIn_of Y) ?F
  case F =>
    intro w mg fa h KX G hmg
    refine' Law.all_mk KX G hmg ?_ ?_ ?_ ?_ ?_ ?_ ?_ ?_ ?_ ?_ ?_ ?_ ?_ ?_ ?_ ?_ ?_ ?_ ?_ ?_ ?_ ?_ ?_ ?_ ?_ ?_ ?_ ?_ ?_ ?_ ?_ ?_ ?_ ?_ ?_ ?_ ?_ ?_ ?_ ?_ ?_ ?_ ?_ ?_ ?_ ?_ ?_ ?_ ?_ ?_ ?_ ?_ ?_ ?_ ?_ ?_ ?_ ?_ ?_ ?_ ?_ ?_ ?_ ?_ ?_ ?_ ?_ ?_ ?_ ?_ ?_ ?_ ?_ ?_ ?_ ?_ ?_ ?_ ?_ ?_ ?_ ?_ ?_ ?_ ?_ ?_ ?_ ?_ ?_ ?_ ?_ ?_ ?_ ?_ ?_ ?_ ?_ ?_ ?_ ?_ ?_ ?_ ?_ ?_ ?_ ?_ ?_ ?_ ?_ ?_ ?_ ?_
    any_goals first | (refine' L2.dgf_mk KX G ?_ ?_ ?_ ?_; any_goals k_is; done) | (refine' L2.dgm_mk ?_ ?_ ?_ ?_ ?_; any_goals k_is; done) | (refine' L2.XCls.mk ?_ ?_ ?_ ?_ ?_ ?_ ?_ ?_ <;> k_is) | (refine' L2.KC.mk ?_ ?_ ?_ ?_ ?_ ?_ <;> k_is) | k_is | kit_is | k_exc | (with_reducible show _ = _; first | k_is | k_exc)
#print axioms PySem.Challenge.cw_foretell_k25_texts_behind_one_another_holds

